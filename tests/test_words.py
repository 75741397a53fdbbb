import itertools
import random
import unittest

from tests.reference import BIG, FIVE, FOUR, RING, SMALL, SQUARE, TWENTY, Model, subwords
from tests.support import WRONG, Case
from underwords.groups import words
from underwords.groups.systems import System
from underwords.groups.words import (
    inverse, is_shortest, left_letters, length, members, normal, of_length, product, right_letters, shortest_words,
)

FREE = System(4, tuple((i, j, 0) for i, j in itertools.combinations(range(4), 2)))
LARGE = System(4, ((0, 1, 3), (1, 2, 4), (2, 3, 3)))


def depth_of(system):
    return {1: 2, 2: 8, 3: 6, 4: 4}[system.letters]


def exchanged(chance, model, word):
    """The word behind one exchange, taking away or putting in at a place of chance."""
    kind = chance.randrange(4)
    at = chance.randint(0, len(word))
    if kind == 0 and len(word) < 39:
        return word[:at] + (chance.choice(list(model.letters)),) * 2 + word[at:]
    if kind == 1 and len(word) > at + 1 and word[at] == word[at + 1]:
        return word[:at] + word[at + 2:]
    if len(word) > at + 1 and word[at] != word[at + 1]:
        i, j = word[at], word[at + 1]
        many = model.bonds[i, j]
        if many and word[at:at + many] == ((i, j) * 3)[:many]:
            return word[:at] + ((j, i) * 3)[:many] + word[at + many:]
    return word


class WordsTest(Case):
    def test_constants(self):
        self.assertEqual((words.MAX_WORD, words.MAX_MEMBERS, words.MAX_LISTED, words.MAX_LIKENED), (40, 120, 2000, 20))

    def test_all_members_up_to_a_length(self):
        for system in SMALL + BIG:
            model = Model(system)
            for size, level in enumerate(model.levels(depth_of(system))):
                for shortest in level.values():
                    word = shortest[-1]
                    self.assertEqual(normal(system, word), shortest[0])
                    self.assertEqual(length(system, word), size)
                    self.assertEqual(shortest_words(system, word), tuple(shortest))
                    self.assertEqual(left_letters(system, word), tuple(sorted({told[0] for told in shortest if told})))
                    self.assertEqual(right_letters(system, word), tuple(sorted({told[-1] for told in shortest if told})))
                    self.assertEqual(inverse(system, word), min(told[::-1] for told in shortest))

    def test_members_and_lengths_against_the_roots(self):
        for system in SMALL + BIG:
            levels = Model(system).levels(depth_of(system))
            ahead = ()
            for size, level in enumerate(levels):
                told = tuple(sorted(shortest[0] for shortest in level.values()))
                ahead += told
                if len(told) <= 120:
                    self.assertEqual(of_length(system, size), told)
            if len(levels) <= depth_of(system):
                self.assertEqual(members(system), ahead)

    def test_words_of_one_member_are_those_with_equal_roots(self):
        chance = random.Random(4)
        for system in SMALL + BIG:
            model = Model(system)
            for _ in range(40):
                one = tuple(chance.choice(list(model.letters)) for _ in range(chance.randint(0, 14)))
                other = tuple(chance.choice(list(model.letters)) for _ in range(chance.randint(0, 14)))
                self.assertEqual(model.member(normal(system, one)), model.member(one))
                self.assertEqual(normal(system, one) == normal(system, other), model.member(one) == model.member(other))
                made = product(system, one, other)
                self.assertEqual(model.member(made), model.member(one + other))
                self.assertEqual(made, normal(system, one + other))
                self.assertEqual(product(system, one, inverse(system, one)), ())
                self.assertEqual(product(system, inverse(system, one), one), ())
                for letter in model.letters:
                    shorter = length(system, (letter,) + one) - length(system, one)
                    self.assertEqual(shorter, -1 if letter in left_letters(system, one) else 1)
                    shorter = length(system, one + (letter,)) - length(system, one)
                    self.assertEqual(shorter, -1 if letter in right_letters(system, one) else 1)

    def test_exchanges_leave_the_member_as_it_is(self):
        chance = random.Random(5)
        for system in SMALL + BIG:
            model = Model(system)
            for _ in range(6):
                word = start = tuple(chance.choice(list(model.letters)) for _ in range(chance.randint(0, 12)))
                told = normal(system, start)
                for _ in range(40):
                    word = exchanged(chance, model, word)
                    self.assertEqual(normal(system, word), told)
                    self.assertEqual(left_letters(system, word), left_letters(system, start))
                    self.assertEqual(right_letters(system, word), right_letters(system, start))
                    self.assertEqual(inverse(system, word), inverse(system, start))
                    self.assertEqual(is_shortest(system, word), len(word) == len(told))

    def test_shortest_words_are_led_to_each_other_by_exchanges(self):
        for system, word in ((FIVE, (0, 1, 0, 2, 1, 0, 3, 2, 1)), (TWENTY, (0, 1, 0, 1, 0, 2, 1, 0)), (LARGE, (1, 2, 1, 2, 0, 1))):
            model = Model(system)
            reached = {normal(system, word)}
            ahead = list(reached)
            while ahead:
                now = ahead.pop()
                for at, (i, j) in enumerate(zip(now, now[1:])):
                    many = model.bonds[i, j]
                    if many and now[at:at + many] == ((i, j) * 3)[:many]:
                        made = now[:at] + ((j, i) * 3)[:many] + now[at + many:]
                        if made not in reached:
                            reached.add(made)
                            ahead.append(made)
            self.assertEqual(tuple(sorted(reached)), shortest_words(system, word))

    def test_shortest_words_by_two_letters_left_out(self):
        for system in (System.polygon(4), System.ring(2), FOUR, RING, System(3, ((0, 1, 6), (1, 2, 4)))):
            model = Model(system)
            for size in range(6):
                for word in itertools.product(model.letters, repeat=size):
                    same = [1 for _, sub in subwords(word) if len(sub) == size - 2 and model.member(sub) == model.member(word)]
                    self.assertEqual(is_shortest(system, word), not same, word)

    def test_is_shortest_takes_every_value(self):
        for value in [*WRONG, (3,), (0, True, 0), 10 ** 4000, (10 ** 4000,), [0, 1], (1, 1), (0, 1, 0, 1, 0)]:
            self.assertIs(is_shortest(FOUR, value), False)
        for value in ((), (0, 1, 0), (1, 0, 2, 1)):
            self.assertIs(is_shortest(FOUR, value), True)
        self.assertIs(is_shortest(System.ring(2), (0, 1) * 20), True)
        self.assertIs(is_shortest(System.ring(2), (0, 1) * 20 + (0,)), False)
        for system in (None, 3, "system", ((0, 1, 3),)):
            self.refuses("InvalidSystem", None, is_shortest, system, (0,))

    def test_longest_members(self):
        for system in (System(1), System(4), System.rows(3), SQUARE, System.polygon(5), System.polygon(6), FOUR, TWENTY,
                       System.signed(3), FIVE):
            found = members(system)
            full = [word for word in found if right_letters(system, word) == tuple(range(system.letters))]
            self.assertEqual(full, [found[-1]])
            self.assertEqual(inverse(system, found[-1]), found[-1])
            self.assertTrue(all(len(word) < len(found[-1]) for word in found[:-1]))
            self.assertEqual(list(found), sorted(found, key=lambda word: (len(word), word)))
        for system in (RING, System.ring(2), System(3, ((0, 1, 0),))):
            for size in range(8):
                for word in of_length(system, size):
                    self.assertLess(len(right_letters(system, word)), system.letters)

    def test_words_of_0_1_40_and_41_letters(self):
        two = System.ring(2)
        for word in ((), (1,), (0, 1) * 20):
            self.assertEqual(normal(two, word), word)
            self.assertEqual(length(two, word), len(word))
            self.assertEqual(shortest_words(two, word), (word,))
            self.assertEqual(inverse(two, word), word[::-1])
        self.assertEqual(normal(FOUR, (0,) * 40), ())
        self.assertEqual(normal(FOUR, (0, 1) * 20), (1, 0))
        self.assertEqual((left_letters(two, (0, 1) * 20), right_letters(two, (0, 1) * 20)), ((0,), (1,)))
        self.assertEqual((left_letters(two, ()), right_letters(two, ())), ((), ()))
        for act in (normal, length, inverse, left_letters, right_letters, shortest_words):
            self.refuses("InvalidWord", None, act, two, (0,) * 41)
            self.refuses("InvalidWord", None, act, two, (0, 1) * 20 + (0,))
        self.refuses("InvalidWord", None, product, two, (0,), (0,) * 41)

    def test_products_of_more_than_40_letters(self):
        two = System.ring(2)
        self.assertEqual(product(two, (0, 1) * 10, (0, 1) * 10), (0, 1) * 20)
        self.assertEqual(product(two, (0, 1) * 20, (1, 0) * 20), ())
        self.assertEqual(product(two, (0, 1) * 20, (1, 0) * 5), (0, 1) * 15)
        self.refuses("TooMany", 40, product, two, (0, 1) * 20, (0,))
        self.refuses("TooMany", 40, product, two, (0, 1) * 20, (0, 1) * 20)
        self.refuses("InvalidWord", None, product, two, (0, 1) * 20, (2,))

    def test_members_at_and_beyond_120(self):
        for system in (TWENTY, FIVE, System(4, ((0, 1, 5), (2, 3, 6)))):
            self.assertEqual(len(members(system)), 120)
        for system in (System(4, ((0, 1, 6), (2, 3, 6))), LARGE, RING, System.ring(2), FREE, System(3, ((0, 1, 0),)),
                       System(4, ((0, 1, 5), (1, 2, 3), (2, 3, 3)))):
            self.refuses("TooMany", 120, members, system)

    def test_of_length_at_and_beyond_120(self):
        self.assertEqual([len(of_length(FREE, size)) for size in range(5)], [1, 4, 12, 36, 108])
        self.refuses("TooMany", 120, of_length, FREE, 5)
        self.refuses("TooMany", 120, of_length, FREE, 40)
        self.assertEqual([len(of_length(LARGE, size)) for size in range(26)],
                         [1, 4, 9, 16, 25, 36, 48, 60, 71, 80, 87, 92, 94, 92, 87, 80, 71, 60, 48, 36, 25, 16, 9, 4, 1, 0])
        self.assertEqual((of_length(TWENTY, 16), of_length(System.ring(2), 40)), ((), ((0, 1) * 20, (1, 0) * 20)))
        self.assertEqual(len(of_length(RING, 40)), 120)
        for value in [*WRONG, 41]:
            self.refuses("InvalidNumber", value, of_length, FOUR, value)

    def test_shortest_words_at_and_beyond_2000(self):
        most = System(4, ((0, 1, 3), (0, 2, 0), (0, 3, 4), (1, 3, 4), (2, 3, 5)))
        word = (0, 1, 0, 3, 0, 1, 0, 2, 3, 1, 3, 2, 0, 3, 0, 1, 2, 3, 1, 2, 3, 0, 1, 2, 3, 1, 2, 0, 1, 2, 3, 1, 2, 0, 1, 2, 3)
        found = shortest_words(most, word)
        self.assertEqual((len(found), len(set(found)), list(found) == sorted(found)), (2000, 2000, True))
        self.assertTrue(all(normal(most, told) == word for told in found[::97]))
        more = System(4, ((1, 2, 3), (2, 3, 0)))
        word = (0, 1, 2, 1, 3, 2, 3, 2, 3, 2, 1, 3, 2, 1, 3, 2, 1, 3, 2, 1, 3, 2, 3)
        self.refuses("TooMany", 2000, shortest_words, more, word)
        two = System(4, ((0, 1, 0), (2, 3, 0)))
        self.assertEqual(len(shortest_words(two, (0, 1) * 6 + (2, 3, 2, 3))), 1820)
        self.refuses("TooMany", 2000, shortest_words, two, (0, 1) * 10 + (2, 3) * 10)

    def test_what_is_not_true(self):
        found = shortest_words(FOUR, (0, 1, 0))
        self.assertNotEqual(sorted(found[0]), sorted(found[1]))
        self.assertLess(len(shortest_words(TWENTY, (0, 2, 1))), len(shortest_words(TWENTY, (0, 2))) + 1)
        self.assertLess(len(shortest_words(FOUR, (0, 1, 2))), len(shortest_words(FOUR, (0, 2))))


if __name__ == "__main__":
    unittest.main()
