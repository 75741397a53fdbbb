import itertools
import random
import unittest

from tests.reference import BIG, FOUR, RING, SMALL, SQUARE, TWENTY
from tests.support import WRONG, Case
from underwords.groups.systems import System
from underwords.groups.words import inverse, members, normal, product
from underwords.under.intervals import covers_of, interval, ladder_number, middle_pair, moebius, numbers
from underwords.under.under import is_under, members_under

TWO = System.ring(2)
MANY = System(4, ((0, 2, 5), (0, 3, 4), (1, 2, 5), (1, 3, 4), (2, 3, 3)))
MANY_WORD = (0, 3, 0, 1, 2, 1, 3, 0)
FULL = System(4, ((0, 2, 5), (0, 3, 5), (1, 2, 0), (2, 3, 4)))
FULL_WORD = (1, 2, 3, 2, 0, 1, 3, 2)


def some_words(chance):
    for system in SMALL + BIG:
        for _ in range(3):
            yield system, tuple(chance.randrange(system.letters) for _ in range(chance.randint(0, 6)))


class IntervalTest(Case):
    def test_against_under(self):
        chance = random.Random(26)
        for system, word in some_words(chance):
            lot = members_under(system, word)
            top = normal(system, word)
            pairs = {(x, y) for x, y in itertools.product(lot, repeat=2) if is_under(system, x, y)}
            by_length = tuple(len([low for low in lot if len(low) == size]) for size in range(len(top) + 1))
            self.assertEqual(numbers(system, word), by_length)
            self.assertEqual(covers_of(system, word), tuple(sorted(low for low in lot if len(low) == len(top) - 1)))
            signs, ladders = {}, {}
            for low in reversed(lot):
                told = interval(system, low + (0, 0), word)
                self.assertEqual(told, tuple(x for x in lot if (low, x) in pairs))
                signs[low] = self.moebius_of(told, pairs)
                self.assertEqual(moebius(system, low, word), signs[low])
                self.assertEqual(moebius(system, low, word), (-1) ** (len(top) - len(low)))
                ladders[low] = 1 if low == top else sum(
                    ladders[x] for x in lot if (low, x) in pairs and len(x) == len(low) + 1)
                self.assertEqual(ladder_number(system, low, word), ladders[low])
                self.assertTrue(ladders[low] > 0)
                if low != top:
                    self.assertEqual(len([x for x in told if len(x) % 2]) * 2, len(told))
                if len(low) == len(top) - 2:
                    self.assertEqual(middle_pair(system, low, word), told[1:-1])
                    self.assertEqual(len(told), 4)
                else:
                    self.refuses("InvalidOperation", None, middle_pair, system, low, word)

    def moebius_of(self, found, pairs):
        """By the rule: the opposite of the sum over all x of the interval but the last one."""
        signs = {}
        for high in found:
            signs[high] = 1 if high == found[0] else -sum(signs[x] for x in found if x != high and (x, high) in pairs)
        return signs[found[-1]]

    def test_members_that_are_not_under(self):
        for one, other in (((2,), (0, 1)), ((0, 1), (1, 0)), ((0, 1, 0), (0,)), ((1,), ())):
            self.assertEqual(interval(FOUR, one, other), ())
            self.assertEqual((moebius(FOUR, one, other), ladder_number(FOUR, one, other)), (0, 0))
            self.refuses("InvalidOperation", None, middle_pair, FOUR, one, other)
        self.refuses("InvalidOperation", None, middle_pair, FOUR, (2,), (0, 1, 0))

    def test_the_first_member(self):
        self.assertEqual((interval(FOUR, (), (1, 1)), numbers(FOUR, ()), moebius(FOUR, (), ()), covers_of(FOUR, (0, 0)),
                          ladder_number(FOUR, (), ())), (((),), (1,), 1, (), 1))

    def test_turned_members(self):
        chance = random.Random(27)
        for system, word in some_words(chance):
            lot = members_under(system, word)
            turned = members_under(system, inverse(system, word))
            self.assertEqual(sorted(inverse(system, low) for low in lot), sorted(turned))
            self.assertEqual(numbers(system, word), numbers(system, inverse(system, word)))
        for system in (System.rows(3), SQUARE, FOUR):
            found = members(system)
            longest = found[-1]
            for u, w in itertools.product(found, repeat=2):
                self.assertIs(is_under(system, u, w), is_under(system, product(system, w, longest), product(system, u, longest)))

    def test_at_and_beyond_120_members(self):
        self.assertEqual(sum(numbers(FULL, FULL_WORD)), 120)
        self.assertEqual(len(interval(FULL, (), FULL_WORD)), 120)
        self.assertEqual(moebius(FULL, (), FULL_WORD), 1)
        self.assertEqual(numbers(TWENTY, members(TWENTY)[-1]), (1, 3, 5, 7, 9, 11, 12, 12, 12, 12, 11, 9, 7, 5, 3, 1))
        self.assertEqual(ladder_number(TWO, (), (0, 1) * 20), 2 ** 39)
        self.assertEqual(len(covers_of(TWO, (0, 1) * 20)), 2)
        for act in (interval, moebius, ladder_number):
            self.refuses("TooMany", 120, act, MANY, (), MANY_WORD)
            self.refuses("TooMany", 120, act, MANY, MANY_WORD, MANY_WORD)
            self.refuses("TooMany", 120, act, RING, (0, 1, 2) * 13, (0, 1, 2) * 13)
            self.assertIsNotNone(act(MANY, MANY_WORD, (0,)))
        for act in (numbers, covers_of):
            self.refuses("TooMany", 120, act, MANY, MANY_WORD)
        low = [word for word in (MANY_WORD[2:], MANY_WORD[:6]) if len(normal(MANY, word)) == 6][0]
        self.refuses("TooMany", 120, middle_pair, MANY, low, MANY_WORD)
        self.refuses("InvalidOperation", None, middle_pair, MANY, (), MANY_WORD)
        self.refuses("InvalidOperation", None, middle_pair, MANY, MANY_WORD, MANY_WORD)

    def test_wrong_arguments_ahead_of_too_many(self):
        for act in (interval, moebius, ladder_number, middle_pair):
            for value in WRONG:
                if value != ():
                    self.refuses("InvalidWord", None, act, MANY, value, MANY_WORD)
                    self.refuses("InvalidWord", None, act, MANY, MANY_WORD, value)
                self.refuses("InvalidSystem", None, act, value, value, MANY_WORD)
        for act in (numbers, covers_of):
            for value in WRONG:
                if value != ():
                    self.refuses("InvalidWord", None, act, MANY, value)
                self.refuses("InvalidSystem", None, act, value, MANY_WORD)

    def test_what_is_not_true(self):
        self.assertNotEqual(numbers(FOUR, (1, 0, 2, 1)), numbers(FOUR, (1, 0, 2, 1))[::-1])


if __name__ == "__main__":
    unittest.main()
