import itertools
import random
import unittest
from unittest import mock

from tests.reference import FIVE, FOUR, RING, SMALL, SQUARE, TWENTY, is_positive, plus, times
from tests.support import WRONG, Case, error_of
from underwords.errors import TooMany
from underwords.groups.mirrors import inversions, mirrors, root_of
from underwords.groups.systems import System
from underwords.groups.words import (
    inverse, is_shortest, members, normal, of_length, product, shortest_words,
)
from underwords.paths import orders as module
from underwords.paths.orders import (
    is_mirror_order, is_order_paper, is_rising, least_steps, longest_member, longest_rising, mirror_row, moved_order,
    order_paper, path_numbers, reversed_order, rising_numbers, rising_paths, word_of_order,
)
from underwords.under.under import is_under, members_under

THREE, TWO, SIGNED = System.rows(3), System.ring(2), System.signed(3)
SPLIT = System(4, ((0, 1, 3), (2, 3, 3)))
FINITE = [System(1), System(2), THREE, SQUARE, System.polygon(5), System.polygon(6), System(3), FOUR, SPLIT, SIGNED,
          System(4), System(3, ((0, 2, 6),)), System(4, ((0, 1, 5), (2, 3, 6)))]
ENDLESS = [TWO, RING, System(3, ((0, 1, 3), (0, 2, 4), (1, 2, 5))), System(4, ((0, 1, 0), (2, 3, 0)))]


def minus(x, y):
    return (x[0] - y[0], x[1] - y[1])


def stands_between(a, b, c):
    """Whether c = x a + y b with x and y above 0: by the areas of pairs of places, and a check of each place."""
    for i, j in itertools.combinations(range(len(a)), 2):
        whole = minus(times(a[i], b[j]), times(a[j], b[i]))
        if whole != (0, 0):
            x = minus(times(c[i], b[j]), times(c[j], b[i]))
            y = minus(times(a[i], c[j]), times(a[j], c[i]))
            if not is_positive(times(x, whole)) or not is_positive(times(y, whole)):
                return False
            return all(times(whole, c[k]) == plus(times(x, a[k]), times(y, b[k])) for k in range(len(a)))
    return False


def roots_of(system):
    return {word: tuple((number.whole, number.part) for number in root_of(system, word)) for word in mirrors(system)}


def between_triples(system):
    roots = roots_of(system)
    return [(a, b, c) for a, b in itertools.combinations(roots, 2) for c in roots
            if stands_between(roots[a], roots[b], roots[c])]


def keeps_rule(triples, row):
    return all(min(row.index(a), row.index(b)) < row.index(c) < max(row.index(a), row.index(b)) for a, b, c in triples)


def all_paths(system, reflections, low, high):
    """All paths by going up from the lower member with every mirror, as long as the upper one is not passed."""
    if low == high:
        return [()]
    found = []
    for mirror in reflections:
        above = normal(system, mirror + low)
        if len(low) < len(above) <= len(high):
            found.extend((mirror,) + path for path in all_paths(system, reflections, above, high))
    return found


def mirrors_in_lot(system, high):
    """The mirrors that lead members of a lot to one another."""
    lot = members_under(system, high)
    return sorted({t for x in lot for t in inversions(system, x)})


class OrdersTest(Case):
    def test_constants(self):
        self.assertEqual((module.MAX_MEMBERS, module.MAX_PATHS), (120, 2000))

    def test_rows_of_all_shortest_words_of_the_longest_member(self):
        for system in FINITE + [TWENTY, FIVE]:
            longest = longest_member(system)
            self.assertEqual(longest, max(members(system), key=len))
            everything = set(mirrors(system))
            words = shortest_words(system, longest)
            rows = [mirror_row(system, word) for word in words[::1 + len(words) // 60]]
            self.assertEqual(len(set(rows)), len(rows))
            for word, row in zip(words[::1 + len(words) // 60], rows):
                self.assertEqual((set(row), len(row)), (everything, len(everything)))
                self.assertTrue(is_mirror_order(system, row))
                self.assertEqual(word_of_order(system, row), word)
                self.assertEqual((len(row[0]), len(row[-1])), (1, 1))
                self.assertEqual(order_paper(system, row), ("word", word))
                self.assertTrue(is_order_paper(system, row, ("word", word)))
                for other in words[:3]:
                    self.assertIs(is_order_paper(system, row, ("word", other)), other == word)

    def test_rows_by_their_words(self):
        chance = random.Random(1)
        for system in SMALL:
            for _ in range(12):
                word = tuple(chance.randrange(system.letters) for _ in range(chance.randrange(7)))
                if is_shortest(system, word):
                    row = mirror_row(system, word)
                    made = [normal(system, word[:at] + word[at:at + 1] + word[:at][::-1]) for at in range(len(word))]
                    self.assertEqual(row, tuple(made))
                    self.assertEqual(set(row), set(inversions(system, word)))
                else:
                    self.refuses("InvalidWord", None, mirror_row, system, word)
        self.assertEqual(mirror_row(FOUR, ()), ())
        self.refuses("InvalidWord", None, mirror_row, FOUR, (0, 0))
        self.refuses("InvalidWord", None, mirror_row, FOUR, (0, 1, 0, 1))

    def test_rows_of_long_words_have_mirrors_of_any_length(self):
        row = mirror_row(TWO, (0, 1) * 20)
        self.assertEqual([len(mirror) for mirror in row], list(range(1, 80, 2)))
        self.assertEqual(row[-1], (0, 1) * 39 + (0,))

    def test_orders_are_those_that_keep_the_rule(self):
        for system in (THREE, SQUARE, System(2), System(3), System.polygon(5), FOUR, System(3, ((0, 1, 4),))):
            triples = between_triples(system)
            kept = []
            for row in itertools.permutations(mirrors(system)):
                told = keeps_rule(triples, row)
                self.assertIs(is_mirror_order(system, row), told, row)
                if told:
                    kept.append(row)
            self.assertEqual({word_of_order(system, row) for row in kept}, set(shortest_words(system, longest_member(system))))

    def test_papers_of_all_sequences(self):
        for system in (THREE, SQUARE, System.polygon(5), FOUR):
            triples = between_triples(system)
            for row in itertools.islice(itertools.permutations(mirrors(system)), 0, None, 3):
                paper = order_paper(system, row)
                self.assertEqual(paper[0] == "word", keeps_rule(triples, row))
                self.assertIs(is_order_paper(system, row, paper), True)
                if paper[0] == "plane":
                    _, a, b, c = paper
                    self.assertTrue((a, b, c) in triples or (b, a, c) in triples)

    def test_every_triple_is_judged(self):
        chance = random.Random(2)
        for system in (SQUARE, FOUR, SIGNED):
            triples = between_triples(system)
            told = mirrors(system)
            for _ in range(4):
                row = tuple(chance.sample(told, len(told)))
                for a, b, c in itertools.product(told, repeat=3):
                    right = ((a, b, c) in triples or (b, a, c) in triples) and not keeps_rule([(a, b, c)], row)
                    self.assertIs(is_order_paper(system, row, ("plane", a, b, c)), right)

    def test_twenty_and_five(self):
        chance = random.Random(3)
        for system in (TWENTY, FIVE):
            triples = between_triples(system)
            row = mirror_row(system, longest_member(system))
            for _ in range(25):
                near = list(row)
                at = chance.randrange(len(row) - 1)
                near[at], near[at + 1] = near[at + 1], near[at]
                told = keeps_rule(triples, near)
                self.assertIs(is_mirror_order(system, tuple(near)), told)
                paper = order_paper(system, tuple(near))
                self.assertEqual(paper[0], "word" if told else "plane")
                self.assertTrue(is_order_paper(system, tuple(near), paper))

    def test_values_near_to_an_order(self):
        row = mirror_row(FOUR, longest_member(FOUR))
        for value in (row[1:], row[:-1], row + row[:1], row[:-1] + row[:1], list(row), tuple(map(list, row)), row[:-1] + ((3,),),
                      (), None, "row", tuple(word[::-1] + (0, 0) for word in row), row[:-1] + (((2,),),), {row: row}):
            self.assertIs(is_mirror_order(FOUR, value), False)
            self.refuses("InvalidOrder", None, order_paper, FOUR, value)
            self.refuses("InvalidOrder", None, is_order_paper, FOUR, value, ("word", ()))
        other = tuple((1, 0, 1) if word == (0, 1, 0) else word for word in row)
        self.assertIs(is_mirror_order(FOUR, other), False)
        flags = tuple(tuple(bool(letter) if letter < 2 else letter for letter in word) for word in row)
        self.assertEqual(flags, row)
        self.assertIs(is_mirror_order(FOUR, flags), False)
        for value in WRONG:
            self.assertIs(is_mirror_order(FOUR, value), False)
        self.assertIs(is_mirror_order(System(1), ((0,),)), True)
        self.assertIs(is_mirror_order(System(1), ((False,),)), False)

    def test_values_near_to_papers(self):
        row = ((0,), (1,), (0, 1, 0))
        good = ("plane", (0,), (1,), (0, 1, 0))
        for value in (good[:3], good + ((),), list(good), ("plane", (0,), (1,), (1, 0, 1)), ("plane", (False,), (1,), (0, 1, 0)),
                      ("plane", (0,), (0,), (0,)), ("plane", (0, 1, 0), (1,), (0,)), ("word", (0, 1, 0)), ("word", None), ("word",),
                      ("word", (0, 1, 0), ()), None, (), ("plane", None, None, None), ("plane", [0], (1,), (0, 1, 0)), 3,
                      ("plan", (0,), (1,), (0, 1, 0)), (("plane",), (0,), (1,), (0, 1, 0))):
            self.assertIs(is_order_paper(THREE, row, value), False, value)
        self.assertIs(is_order_paper(THREE, row, ("plane", (1,), (0,), (0, 1, 0))), True)
        order = mirror_row(THREE, (0, 1, 0))
        self.assertIs(is_order_paper(THREE, order, ("word", (0, 1, 0))), True)
        for value in (("word", (1, 0, 1)), ("word", (0, True, 0)), ("word", [0, 1, 0]), ("word", (0, 1, 0, 0, 0)), good):
            self.assertIs(is_order_paper(THREE, order, value), False, value)

    def test_systems_with_more_members(self):
        for system in ENDLESS + [System(4, ((0, 1, 3), (1, 2, 4), (2, 3, 3))), System(4, ((0, 1, 5), (1, 2, 3)))]:
            self.refuses("TooMany", 120, longest_member, system)
            for value in ((), ((0,),), tuple((letter,) for letter in range(system.letters))):
                self.assertIs(is_mirror_order(system, value), False)
                for act in (order_paper, word_of_order, reversed_order, moved_order):
                    self.refuses("InvalidOrder", None, act, system, value)
                self.refuses("InvalidOrder", None, rising_paths, system, value, (), ())

    def test_reversed_and_moved_orders(self):
        for system in FINITE + [TWENTY]:
            words = shortest_words(system, longest_member(system))
            for word in words[::1 + len(words) // 20]:
                row = mirror_row(system, word)
                turned, moved = reversed_order(system, row), moved_order(system, row)
                self.assertEqual(turned, row[::-1])
                self.assertEqual(mirror_row(system, word_of_order(system, turned)), turned)
                self.assertEqual(moved, tuple(normal(system, row[0] + t + row[0]) for t in row[1:]) + row[:1])
                self.assertEqual(word_of_order(system, moved)[:-1], word[1:])
                now = row
                for _ in row:
                    now = moved_order(system, now)
                self.assertEqual(set(now), set(row))

    def test_wrong_orders_and_words(self):
        row = mirror_row(FOUR, longest_member(FOUR))
        near = row[1:2] + row[:1] + row[2:]
        calls = [(word_of_order, ()), (reversed_order, ()), (moved_order, ()), (rising_paths, ((), (0,))),
                 (longest_rising, ((), (0,))), (is_rising, ((), (0,), ())), (rising_numbers, ((), (0,)))]
        for act, more in calls:
            self.assertIsNone(error_of(act, FOUR, row, *more)[0])
            for value in (*WRONG, near, row[:-1], list(row)):
                self.refuses("InvalidOrder", None, act, FOUR, value, *more)
                self.refuses("InvalidSystem", None, act, value, value, *more)
                if more and value != ():
                    self.refuses("InvalidWord", None, act, FOUR, row, value, *[None for _ in more[1:]])
                    self.refuses("InvalidWord", None, act, FOUR, row, (), value, *more[2:])
                    self.refuses("InvalidOrder", None, act, FOUR, value, value, value, *more[2:])


class PathsTest(Case):
    def pairs(self, system, chance, many):
        found = members(system)
        return [(chance.choice(found), chance.choice(found)) for _ in range(many)] + [((), found[-1]), (found[-1], ())]

    def test_rising_paths_are_those_of_all_paths_that_rise(self):
        chance = random.Random(4)
        for system in (System(1), THREE, SQUARE, System.polygon(6), System(3), FOUR, SPLIT):
            told = mirrors(system)
            words = shortest_words(system, longest_member(system))
            for low, high in self.pairs(system, chance, 10):
                paths = all_paths(system, told, low, high)
                self.assertEqual(bool(paths), is_under(system, low, high))
                counts = {}
                for path in paths:
                    counts[len(path)] = counts.get(len(path), 0) + 1
                self.assertEqual(path_numbers(system, low, high), counts)
                self.assertEqual(list(path_numbers(system, low, high)), sorted(counts))
                self.assertEqual(least_steps(system, low, high), min(counts, default=None))
                self.check_orders(system, low, high, paths, [chance.choice(words), words[-1]])

    def check_orders(self, system, low, high, paths, words):
        numbers = []
        for word in words:
            order = mirror_row(system, word)
            placed = sorted([order.index(t) for t in path] for path in paths)
            rising = tuple(tuple(order[at] for at in row) for row in placed if row == sorted(set(row)))
            self.assertEqual(rising_paths(system, order, low, high), rising)
            counts = {}
            for path in rising:
                counts[len(path)] = counts.get(len(path), 0) + 1
            self.assertEqual(rising_numbers(system, order, low, high), counts)
            self.assertEqual(list(rising_numbers(system, order, low, high)), sorted(counts))
            numbers.append(counts)
            full = [row for row in placed if len(row) == len(high) - len(low)]
            first = longest_rising(system, order, low, high)
            self.assertEqual(first, tuple(order[at] for at in full[0]) if full else None)
            self.assertEqual([path for path in rising if len(path) == len(high) - len(low)], [first] if full else [])
            for path in paths[:60]:
                self.assertIs(is_rising(system, order, low, high, path), path in rising)
            for path in rising:
                self.assertIs(is_rising(system, order, low, high, path), True)
                for value in (path[1:], path[:-1], path[::-1], path + path[-1:], list(path)):
                    self.assertIs(is_rising(system, order, low, high, value), value in rising)
            if paths:
                self.assertEqual(min(counts), min(map(len, paths)))
        self.assertTrue(all(counts == numbers[0] for counts in numbers))

    def test_numbers_do_not_hang_on_the_order(self):
        chance = random.Random(5)
        for system in (FIVE, TWENTY, SIGNED):
            words = shortest_words(system, longest_member(system))
            for low, high in self.pairs(system, chance, 4):
                told = [rising_numbers(system, mirror_row(system, word), low, high) for word in chance.sample(words, 3)]
                self.assertTrue(all(counts == told[0] for counts in told))
                for k in told[0]:
                    self.assertEqual((len(high) - len(low) - k) % 2, 0)
                if told[0]:
                    self.assertEqual(told[0][len(high) - len(low)], 1)
                    self.assertEqual(min(told[0]), least_steps(system, low, high))

    def test_words_need_not_be_normal(self):
        order = mirror_row(FOUR, longest_member(FOUR))
        self.assertEqual(rising_paths(FOUR, order, (2, 0), (1, 0, 1, 2, 2, 2)), rising_paths(FOUR, order, (0, 2), (0, 1, 0, 2)))
        self.assertEqual(path_numbers(FOUR, (0, 0), (1, 0, 1)), {1: 1, 3: 4})
        self.assertEqual((rising_paths(FOUR, order, (0,), (1, 1, 0)), rising_numbers(FOUR, order, (0,), (0,))), (((),), {0: 1}))
        self.assertEqual((longest_rising(FOUR, order, (0,), (0,)), path_numbers(FOUR, (2,), (2,))), ((), {0: 1}))
        self.assertEqual((least_steps(FOUR, (2,), (2,)), least_steps(FOUR, (2,), (1,)), path_numbers(FOUR, (2,), (1,))), (0, None, {}))
        self.assertEqual((rising_paths(FOUR, order, (2,), (1,)), rising_numbers(FOUR, order, (2,), (1,))), ((), {}))
        self.assertIs(is_rising(FOUR, order, (0, 0), (1, 1), ()), True)
        self.assertIs(is_rising(FOUR, order, (2,), (1,), ()), False)

    def test_mirrors_of_a_path_stand_in_the_order(self):
        order = mirror_row(THREE, (0, 1, 0))
        self.assertIs(is_rising(THREE, order, (), (0, 1, 0), ((0, 1, 0),)), True)
        for value in (((1, 0, 1),), ((0, 1, 0, 1, 1),), [(0, 1, 0)], ([0, 1, 0],), ((0, True, 0),), (0, 1, 0), None, 1, "", {},
                      ((0,), (0, 1, 0)), ((0, 1, 0), (0, 1, 0), (0, 1, 0)), ((0,), (0,)), ((0,), (1,), (0, 1, 0)), ((),), (None,)):
            self.assertIs(is_rising(THREE, order, (), (0, 1, 0), value), False, value)

    def test_endless_systems_and_least_steps(self):
        chance = random.Random(6)
        for system in ENDLESS:
            for _ in range(8):
                size = chance.randrange(6)
                high = chance.choice(of_length(system, size))
                low = chance.choice(members_under(system, high)) if chance.random() < 0.8 else chance.choice(of_length(system, 2))
                paths = all_paths(system, mirrors_in_lot(system, high), low, high) if is_under(system, low, high) else []
                counts = {}
                for path in paths:
                    counts[len(path)] = counts.get(len(path), 0) + 1
                self.assertEqual(path_numbers(system, low, high), counts)
                self.assertEqual(least_steps(system, low, high), min(counts, default=None))

    def test_letters_that_can_be_left_out(self):
        chance = random.Random(7)
        for system in (FOUR, SQUARE, SIGNED, TWENTY, RING, TWO):
            for size in range(7):
                high = chance.choice(of_length(system, size) or [()])
                least = min(many for many in range(len(high) + 1) for left in itertools.combinations(range(len(high)), many)
                            if normal(system, tuple(s for at, s in enumerate(high) if at not in left)) == ())
                self.assertEqual(least_steps(system, (), high), least)
        products = {(): 0}
        while len(products) < len(members(FOUR)):
            for word, many in list(products.items()):
                for t in mirrors(FOUR):
                    products.setdefault(product(FOUR, t, word), many + 1)
        for word, many in products.items():
            self.assertEqual(least_steps(FOUR, (), word), many)
        self.assertEqual(products[product(FOUR, (0, 1, 2, 1, 0), inverse(FOUR, (1,)))], 2)
        self.assertEqual(least_steps(FOUR, (1,), (0, 1, 2, 1, 0)), 4)

    def test_too_many(self):
        long = (0, 1, 2) * 13
        for act in (path_numbers, least_steps):
            self.refuses("TooMany", 120, act, RING, (), long)
            self.refuses("TooMany", 120, act, RING, long, long[:-1])
            self.refuses("InvalidWord", None, act, RING, None, long)
            self.refuses("InvalidWord", None, act, RING, long, None)
            self.refuses("InvalidSystem", None, act, None, None, long)
            self.assertIsNone(error_of(act, RING, long, (0, 1))[0])
        self.assertEqual(sum(path_numbers(TWO, (), (0, 1) * 20)), sum(range(2, 41, 2)))
        self.assertEqual(path_numbers(TWO, (), (0, 1) * 20)[40], 2 ** 39)

    def test_more_rising_paths_than_are_told(self):
        # No system with at most 120 members has more than 2000 rising paths, so the number is lowered here.
        longest = longest_member(TWENTY)
        order = mirror_row(TWENTY, longest)
        many = sum(rising_numbers(TWENTY, order, (), longest).values())
        self.assertEqual((many, len(rising_paths(TWENTY, order, (), longest))), (375, 375))
        with mock.patch.object(module, "MAX_PATHS", many):
            self.assertEqual(len(rising_paths(TWENTY, order, (), longest)), many)
        with mock.patch.object(module, "MAX_PATHS", many - 1):
            self.refuses("TooMany", many - 1, rising_paths, TWENTY, order, (), longest)
            self.refuses("InvalidWord", None, rising_paths, TWENTY, order, (), (3,))
            self.assertEqual(len(longest_rising(TWENTY, order, (), longest)), 15)

    def test_no_order_has_more_than_two_thousand_rising_paths(self):
        most = 0
        for system in FINITE + [TWENTY, FIVE, System(4, ((1, 2, 3), (2, 3, 4)))]:
            longest = longest_member(system)
            most = max(most, sum(rising_numbers(system, mirror_row(system, longest), (), longest).values()))
        self.assertEqual(most, 375)


if __name__ == "__main__":
    unittest.main()
