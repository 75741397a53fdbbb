import itertools
import random
import unittest

from tests.reference import BIG, FIVE, FOUR, RING, SMALL, SQUARE, TWENTY, Model, subwords
from tests.support import WRONG, Case, error_of
from underwords.groups.mirrors import inversions
from underwords.groups.systems import System
from underwords.groups.words import (
    inverse, is_shortest, left_letters, length, members, normal, of_length, product, right_letters, shortest_words,
)
from underwords.under import under as module
from underwords.under.under import all_places, is_under, is_under_paper, members_under, under_paper

TWO = System.ring(2)
FREE = System(4, tuple((i, j, 0) for i, j in itertools.combinations(range(4), 2)))
SYSTEMS = SMALL + BIG


def some_members(system, most, many, chance):
    most = min(most, 4) if system.letters == 4 else most
    found = [word for size in range(most + 1) for word in of_length(system, size)]
    return found if len(found) <= many else [(), *chance.sample(found, many)]


def lot_by_subwords(system, word):
    """The normal words of the members of all shortest sub-words of a shortest word."""
    return {normal(system, sub) for _, sub in subwords(word) if is_shortest(system, sub)}


class UnderTest(Case):
    def test_constants(self):
        self.assertEqual((module.MAX_UNDER, module.MAX_PLACES), (120, 2000))

    def test_under_by_sub_words_of_each_shortest_word(self):
        chance = random.Random(19)
        for system in SYSTEMS:
            found = some_members(system, 5, 24, chance)
            for high in found:
                lots = [lot_by_subwords(system, word) for word in shortest_words(system, high)[:3]]
                self.assertTrue(all(lot == lots[0] for lot in lots))
                self.assertEqual(members_under(system, high), tuple(sorted(lots[0], key=lambda word: (len(word), word))))
                for low in found:
                    self.assertIs(is_under(system, low, high), low in lots[0], (system.bonds, low, high))
                    self.assertIs(is_under(system, low + (0, 0), (0, 0) + high), low in lots[0])

    def test_rows_by_their_first_entries(self):
        rows = {}
        for word in members(FIVE):
            row = [1, 2, 3, 4, 5]
            for at in word:
                row[at], row[at + 1] = row[at + 1], row[at]
            rows[word] = row
        chance = random.Random(20)
        for _ in range(600):
            low, high = chance.choice(list(rows)), chance.choice(list(rows))
            corners = [1 for i in range(1, 6) for j in range(1, 6)
                       if sum(n >= j for n in rows[low][:i]) > sum(n >= j for n in rows[high][:i])]
            self.assertIs(is_under(FIVE, low, high), not corners)

    def test_an_order(self):
        chance = random.Random(21)
        for system in SYSTEMS:
            found = some_members(system, 5, 16, chance)
            under = {(u, w) for u, w in itertools.product(found, repeat=2) if is_under(system, u, w)}
            for u in found:
                self.assertTrue(is_under(system, (), u) and (u, u) in under)
            for u, w in under:
                self.assertTrue(len(u) <= len(w) and set(u) <= set(w))
                self.assertTrue((w, u) not in under or u == w)
                self.assertTrue(is_under(system, inverse(system, u), inverse(system, w)))
                self.assertLessEqual(len(members_under(system, w)), 2 ** len(w))
                for x in found:
                    if (w, x) in under:
                        self.assertIn((u, x), under)

    def test_one_step_up(self):
        chance = random.Random(22)
        for system in SYSTEMS:
            for high in some_members(system, 5, 8, chance):
                lot = members_under(system, high)
                for low in lot[:-1]:
                    self.assertTrue([x for x in lot if len(x) == len(low) + 1 and is_under(system, low, x)])

    def test_letters_taken_off(self):
        chance = random.Random(23)
        for system in SYSTEMS:
            found = some_members(system, 5, 12, chance)
            for u, w in itertools.product(found, repeat=2):
                told = is_under(system, u, w)
                for s in left_letters(system, w):
                    less = normal(system, (s,) + w)
                    if s in left_letters(system, u):
                        self.assertIs(is_under(system, (s,) + u, less), told)
                    else:
                        self.assertIs(is_under(system, u, less), told)
                        self.assertIs(is_under(system, (s,) + u, w), told)
                for s in right_letters(system, w):
                    less = normal(system, w + (s,))
                    if s in right_letters(system, u):
                        self.assertIs(is_under(system, u + (s,), less), told)
                    else:
                        self.assertIs(is_under(system, u, less), told)
                        self.assertIs(is_under(system, u + (s,), w), told)

    def test_wrong_words(self):
        for act in (is_under, under_paper, is_under_paper, all_places):
            more = (None,) if act is is_under_paper else ()
            for value in WRONG:
                if value != ():
                    self.refuses("InvalidWord", None, act, FOUR, value, (0,), *more)
                    self.refuses("InvalidWord", None, act, FOUR, (0,), value, *more)
                    self.refuses("InvalidSystem", None, act, value, value, value, *more)

    def test_long_words(self):
        high = (0, 1) * 20
        self.assertTrue(is_under(TWO, (1, 0) * 19 + (1,), high) and not is_under(TWO, (1, 0) * 20, high))
        self.assertTrue(is_under(FOUR, (0,) * 39, (0, 1) * 20))
        self.refuses("InvalidWord", None, is_under, TWO, (0,), high + (0,))

    def test_what_is_not_true(self):
        self.assertFalse(is_under(FOUR, (0, 1), (1, 0, 2)))
        lot = set(members_under(FOUR, (0, 1))) & set(members_under(FOUR, (1, 0)))
        self.assertEqual(sorted(lot), [(), (0,), (1,)])
        self.assertTrue(is_under(FOUR, (0,), (1, 0)) and (0,) not in inversions(FOUR, (1, 0)))


class PaperTest(Case):
    def check(self, system, one, other):
        value = under_paper(system, one, other)
        self.assertIs(is_under_paper(system, one, other, value), True)
        if is_under(system, one, other):
            kind, places = value
            word = tuple(normal(system, other)[at] for at in places)
            self.assertEqual((kind, sorted(set(places))), ("places", list(places)))
            self.assertEqual((normal(system, word), len(word)), (normal(system, one), length(system, one)))
        else:
            kind, word, rest = value
            self.assertEqual((kind, normal(system, word), len(word)), ("bar", normal(system, other), length(system, other)))
            left = one
            for letter in word:
                if letter in left_letters(system, left):
                    left = product(system, (letter,), left)
            self.assertEqual(normal(system, left), rest)
            self.assertNotEqual(rest, ())

    def test_papers_of_chance(self):
        chance = random.Random(24)
        for system in SYSTEMS:
            for _ in range(30):
                one = tuple(chance.randrange(system.letters) for _ in range(chance.randint(0, 6)))
                other = tuple(chance.randrange(system.letters) for _ in range(chance.randint(0, 12)))
                self.check(system, one, other)
        self.check(TWO, (1, 0) * 20, (0, 1) * 20)
        self.check(TWO, (1, 0) * 15, (0, 1) * 20)

    def test_bars_along_every_shortest_word(self):
        for system, high in ((FOUR, (1, 0, 2, 1)), (TWENTY, (0, 1, 0, 2, 1)), (RING, (0, 2, 0, 1)), (SQUARE, (0, 1, 0, 1))):
            for low in [word for size in range(5) for word in of_length(system, size)]:
                for word in shortest_words(system, high):
                    left = Model(system)
                    rest = low
                    for letter in word:
                        if letter in left_letters(system, rest):
                            rest = normal(system, (letter,) + rest)
                    told = is_under_paper(system, low, high, ("bar", word, rest))
                    self.assertIs(told, not is_under(system, low, high))
                    self.assertEqual(left.member(rest) == left.member(()), not told)

    def test_places_need_the_normal_word(self):
        self.assertTrue(is_under_paper(FOUR, (0, 2), (1, 2, 0, 1), ("places", (1, 2))))
        self.assertEqual(normal(FOUR, (1, 2, 0)), (1, 0, 2))
        self.assertTrue(is_under_paper(FOUR, (1, 0), (1, 2, 0), ("places", (0, 1))))
        self.assertFalse(is_under_paper(FOUR, (1, 0), (1, 2, 0), ("places", (0, 2))))
        self.assertTrue(is_under_paper(FOUR, (0, 1, 0, 0, 0), (1, 0, 1), ("places", (0, 1))) is False)
        self.assertTrue(is_under_paper(FOUR, (1, 0, 1), (1, 0, 1), ("places", (0, 1, 2))))
        self.assertTrue(is_under_paper(FOUR, (), (1, 0, 1), ("places", ())))

    def test_wrong_values(self):
        wrong = [
            ((0, 2), (1, 0, 2, 1), [
                ("places", (2, 1)), ("places", (0, 3)), ("places", (1,)), ("places", (1, 1, 2)), ("places", (1, 2, 3)),
                ("places", [1, 2]), ("places", (True, 2)), ("places", (1, 2), ()), ("places",), ["places", (1, 2)],
                ("places", (1, 4)), ("places", (-3, 2)), ("places", (-3, -2)), ("places", (1, 10 ** 99)), ("places", ("1", 2)),
                ("Places", (1, 2)), (1, 2), ("bar", (1, 0, 2, 1), ()), ("bar", (1, 0, 2, 1), (0,)), ("places", None)]),
            ((0, 1, 2), (1, 0, 2, 1), [
                ("bar", (1, 2, 0, 1), ()), ("bar", (1, 2, 0, 1), (1,)), ("bar", (1, 2, 0, 1), [2]), ("bar", [1, 2, 0, 1], (2,)),
                ("bar", (1, 2, 0, 1), (2, 0, 0)), ("bar", (1, 2, 0), (2,)), ("bar", (1, 2, 0, 1)), ("bar", (1, 2, 0, 1), (2,), 0),
                ("bar", (2, 1, 0, 1), (2,)), ("bar", (True, 2, 0, 1), (2,)), ("bar", (1, 2, 0, 1), (3,)), ("bar", (1, 2, 0, 1), None),
                ("bar", (1, 2, 0, 0, 0, 1), (2,)), ("places", (1, 3)), ("places", (0, 1, 2)), ("bar", (), ()), ("bar", None, (2,))]),
            ((0, 2, 1), (1, 0), [("bar", (1, 0), (0, 2, True)), ("bar", (1, 0), (0, 2))]),
        ]
        for one, other, values in wrong:
            for value in values + WRONG:
                self.assertIs(is_under_paper(FOUR, one, other, value), False, (one, other, value))
        self.assertTrue(is_under_paper(FOUR, (0, 2), (1, 0, 2, 1), ("places", (1, 2))))
        self.assertTrue(is_under_paper(FOUR, (0, 1, 2), (1, 0, 2, 1), ("bar", (1, 2, 0, 1), (2,))))
        kind, word, rest = under_paper(FOUR, (2, 1), (1, 2))
        self.assertEqual((kind, word), ("bar", (1, 2)))
        self.assertIs(is_under_paper(FOUR, (2, 1), (1, 2), (kind, word, tuple(letter == 1 for letter in rest))), False)


class PlacesTest(Case):
    def test_all_places_by_all_sub_words(self):
        chance = random.Random(25)
        for system in SYSTEMS:
            for _ in range(5):
                word = normal(system, tuple(chance.randrange(system.letters) for _ in range(9)))
                word = chance.choice(shortest_words(system, word))
                told = {}
                for places, sub in subwords(word):
                    if is_shortest(system, sub):
                        told.setdefault(normal(system, sub), []).append(places)
                for low, places in told.items():
                    self.assertEqual(all_places(system, low, word), tuple(sorted(places)))
                    self.assertEqual(all_places(system, low + (0, 0), word), tuple(sorted(places)))
                for size in range(3):
                    for low in of_length(system, size):
                        self.assertEqual(all_places(system, low, word), tuple(sorted(told.get(low, []))))

    def test_places_hang_on_the_word(self):
        self.assertEqual(all_places(FOUR, (0,), (0, 1, 0)), ((0,), (2,)))
        self.assertEqual(all_places(FOUR, (0,), (1, 0, 1)), ((1,),))
        self.assertEqual(all_places(FOUR, (0,), ()), ())
        self.assertEqual(all_places(FOUR, (1, 1), ()), ((),))

    def test_words_that_are_not_shortest(self):
        for word in ((1, 1), (0, 1, 0, 1), (0, 2, 0)):
            self.refuses("InvalidOperation", None, all_places, FOUR, (1,), word)
            self.refuses("InvalidWord", None, all_places, FOUR, (3,), word)
        self.refuses("InvalidWord", None, all_places, FOUR, (1,), (3, 3))

    def test_at_and_beyond_2000(self):
        word = (0, 1) * 20
        for size, many in ((0, 1), (1, 20), (2, 210), (3, 1330), (37, 38), (38, 39), (39, 1), (40, 1)):
            found = all_places(TWO, word[:size], word)
            self.assertEqual(list(found), sorted(set(found)))
            self.assertEqual(len(found), many, size)
        self.refuses("TooMany", 2000, all_places, TWO, (0, 1, 0, 1), word)
        self.refuses("TooMany", 2000, all_places, TWO, (0, 1) * 10, word)
        self.refuses("InvalidOperation", None, all_places, FOUR, (0, 1, 0), (0, 1) * 20)

    def test_exactly_2000(self):
        # In this system each word without two equal neighbours is the only shortest one.
        word = (0, 2, 1, 0, 1, 0, 2, 0, 1, 0, 1, 2, 1, 2, 1, 2, 1, 2, 1, 0,
                1, 2, 0, 2, 0, 2, 1, 0, 2, 0, 1, 0, 1, 0, 1, 2, 0, 2, 0, 1)
        more = (0, 2, 0, 1, 0, 1, 2, 1, 0, 1, 0, 2, 1, 2, 1, 2, 0, 2, 0, 1,
                0, 2, 0, 2, 0, 1, 0, 2, 1, 2, 0, 1, 0, 2, 1, 0, 1, 0, 2, 0)
        found = all_places(FREE, (0, 1, 2, 0), word)
        self.assertEqual((len(found), list(found)), (2000, sorted(set(found))))
        self.assertTrue(all(tuple(word[at] for at in places) == (0, 1, 2, 0) for places in found))
        self.refuses("TooMany", 2000, all_places, FREE, (0, 1, 2, 0), more)


class LotTest(Case):
    def test_lots_with_120_members_and_with_more(self):
        for system, word in ((TWENTY, members(TWENTY)[-1]), (FIVE, members(FIVE)[-1]),
                             (System(4, ((0, 2, 5), (0, 3, 5), (1, 2, 0), (2, 3, 4))), (1, 2, 3, 2, 0, 1, 3, 2))):
            found = members_under(system, word)
            self.assertEqual((len(found), len(set(found))), (120, 120))
            self.assertEqual(list(found), sorted(found, key=lambda told: (len(told), told)))
        for system, word in ((System(4, ((0, 2, 5), (0, 3, 4), (1, 2, 5), (1, 3, 4), (2, 3, 3))), (0, 3, 0, 1, 2, 1, 3, 0)),
                             (System(3, ((1, 2, 0),)), (0,) + (1, 2) * 15 + (1,)), (RING, (0, 1, 2) * 13), (FREE, (0, 1, 2, 3) * 10)):
            self.refuses("TooMany", 120, members_under, system, word)
        self.assertEqual(len(members_under(TWO, (0, 1) * 20)), 80)

    def test_wrong_arguments(self):
        for value in WRONG:
            if value != ():
                self.refuses("InvalidWord", None, members_under, RING, value)
            self.refuses("InvalidSystem", None, members_under, value, value)
        self.assertEqual(error_of(members_under, RING, ()), (None, ((),)))

    def test_products(self):
        self.assertEqual(members_under(FOUR, product(FOUR, (0, 1), (0, 1))), ((), (0,), (1,), (1, 0)))


if __name__ == "__main__":
    unittest.main()
