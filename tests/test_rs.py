import itertools
import random
import unittest
from unittest import mock

from tests.reference import BIG, FIVE, FOUR, RING, SMALL, SQUARE, TWENTY
from tests.support import WRONG, Case, error_of
from underwords.base.polys import Poly
from underwords.groups.systems import System
from underwords.groups.words import inverse, left_letters, members, normal, of_length, right_letters, shortest_words
from underwords.paths.orders import longest_member, mirror_row
from underwords.ratio import rs as module
from underwords.ratio.rs import r_by_paths, r_poly, r_row
from underwords.under.under import is_under, members_under

ONE, ZERO, Q, LESS = Poly((1,)), Poly(()), Poly((0, 1)), Poly((-1, 1))
TWO = System.ring(2)
SYSTEMS = SMALL + BIG


class Rule:
    """R by [0.15], with letters of the side and the place among them that are told."""

    def __init__(self, system, is_left, at):
        self.system, self.is_left, self.at, self.known = system, is_left, at, {}

    def letters(self, word):
        return left_letters(self.system, word) if self.is_left else right_letters(self.system, word)

    def led(self, word, letter):
        return normal(self.system, (letter,) + word if self.is_left else word + (letter,))

    def r(self, low, high):
        if (low, high) not in self.known:
            self.known[low, high] = self.made(low, high)
        return self.known[low, high]

    def made(self, low, high):
        if not is_under(self.system, low, high):
            return ZERO
        if low == high:
            return ONE
        letter = self.letters(high)[self.at]
        near, rest = self.led(low, letter), self.led(high, letter)
        if letter in self.letters(low):
            return self.r(near, rest)
        return Q * self.r(near, rest) + LESS * self.r(low, rest)


def some(system, most, many, chance):
    found = [word for size in range(min(most, 4) + 1 if system.letters == 4 else most + 1) for word in of_length(system, size)]
    return found if len(found) <= many else [(), *chance.sample(found, many)]


class RTest(Case):
    def test_letters_of_both_sides(self):
        chance = random.Random(1)
        for system in SYSTEMS:
            rules = [Rule(system, is_left, at) for is_left in (False, True) for at in (0, -1)]
            found = some(system, 5, 12, chance)
            for low, high in itertools.product(found, repeat=2):
                told = r_poly(system, low, high)
                self.assertTrue(all(rule.r(low, high) == told for rule in rules), (system.bonds, low, high))
                self.assertEqual(bool(told), is_under(system, low, high))

    def test_rows(self):
        chance = random.Random(2)
        for system in SYSTEMS:
            rule = Rule(system, False, 0)
            for high in some(system, 5, 6, chance):
                row = r_row(system, high)
                self.assertEqual(tuple(row), members_under(system, high))
                for low in row:
                    self.assertEqual(row[low], rule.r(low, high))
                    self.assertEqual(row[low], r_poly(system, low, high))
                    self.assertEqual(row[low], r_poly(system, inverse(system, low), inverse(system, high)))

    def test_degrees_and_turned_ones(self):
        chance = random.Random(3)
        for system in SYSTEMS:
            for high in some(system, 5, 6, chance):
                for low, poly in r_row(system, high).items():
                    size = len(high) - len(low)
                    sign = -1 if size % 2 else 1
                    self.assertEqual((poly.degree, poly.at(size), poly.at(0), poly.lowest), (size, 1, sign, 0))
                    self.assertEqual(poly.turned().moved(size), poly * Poly((sign,)))

    def test_sums(self):
        chance = random.Random(4)
        for system in SYSTEMS:
            for high in some(system, 5, 4, chance):
                rows = {x: r_row(system, x) for x in members_under(system, high)}
                self.assertEqual(sum(rows[high].values(), ZERO), Q.raised(len(high)))
                for low in rows:
                    if low != high:
                        total = ZERO
                        for x in rows:
                            sign = -1 if (len(x) - len(low)) % 2 else 1
                            total += Poly((sign,)) * rows[x].get(low, ZERO) * rows[high][x]
                        self.assertEqual(total, ZERO)

    def test_largest_lots(self):
        for system in (TWENTY, FIVE):
            longest = longest_member(system)
            row = r_row(system, longest)
            self.assertEqual(len(row), 120)
            self.assertEqual(sum(row.values(), ZERO), Q.raised(len(longest)))
            rule = Rule(system, False, -1)
            for low in members(system)[::17]:
                self.assertEqual(row[low], rule.r(low, longest))
        row = r_row(TWO, (0, 1) * 20)
        self.assertEqual(sum(row.values(), ZERO), Q.raised(40))
        self.assertEqual(row[()].degree, 40)

    def test_not_true_ones(self):
        self.assertNotEqual(r_poly(FOUR, (), (0, 1, 0)), LESS.raised(3))
        self.assertEqual(r_poly(FOUR, (), (0, 1, 2)), LESS.raised(3))
        self.assertEqual(r_poly(FOUR, (0, 1, 0), ()), ZERO)

    def test_words_need_not_be_normal(self):
        self.assertEqual(r_row(FOUR, (1, 0, 1, 2, 2)), r_row(FOUR, (0, 1, 0)))
        self.assertEqual(r_poly(FOUR, (2, 2), (1, 0, 1)), r_poly(FOUR, (), (0, 1, 0)))

    def test_errors(self):
        long = (0, 1, 2) * 13
        self.refuses("TooMany", 120, r_poly, RING, (), long)
        self.refuses("TooMany", 120, r_row, RING, long)
        self.refuses("InvalidWord", None, r_poly, RING, None, long)
        self.refuses("InvalidWord", None, r_poly, RING, (0, 1, 3), ())
        self.assertEqual(error_of(r_poly, RING, long, (0, 1)), (None, ZERO))
        for value in WRONG:
            self.refuses("InvalidSystem", None, r_poly, value, value, value)
            self.refuses("InvalidSystem", None, r_row, value, value)
            if value != ():
                self.refuses("InvalidWord", None, r_row, FOUR, value)
                self.refuses("InvalidWord", None, r_poly, FOUR, value, None)
                self.refuses("InvalidWord", None, r_poly, FOUR, (), value)


class ByPathsTest(Case):
    def test_all_pairs_in_two_orders(self):
        for system in (System(1), System.rows(3), SQUARE, System.polygon(5), FOUR):
            words = shortest_words(system, longest_member(system))
            for word in {words[0], words[len(words) // 2], words[-1]}:
                order = mirror_row(system, word)
                for high in members(system):
                    row = r_row(system, high)
                    for low in members(system):
                        self.assertEqual(r_by_paths(system, order, low, high), row.get(low, ZERO))

    def test_large_systems(self):
        chance = random.Random(5)
        for system in (FIVE, TWENTY, System.signed(3)):
            words = shortest_words(system, longest_member(system))
            for _ in range(20):
                low, high = chance.choice(members(system)), chance.choice(members(system))
                order = mirror_row(system, chance.choice(words))
                self.assertEqual(r_by_paths(system, order, low, high), r_poly(system, low, high))
            order = mirror_row(system, words[3])
            self.assertEqual(r_by_paths(system, order, (0, 0), words[5]), r_row(system, words[0])[()])

    def test_errors(self):
        order = mirror_row(FOUR, longest_member(FOUR))
        near = order[1:2] + order[:1] + order[2:]
        for value in (*WRONG, near, order[1:]):
            self.refuses("InvalidOrder", None, r_by_paths, FOUR, value, None, None)
            self.refuses("InvalidSystem", None, r_by_paths, value, value, None, None)
            if value != ():
                self.refuses("InvalidWord", None, r_by_paths, FOUR, order, value, ())
                self.refuses("InvalidWord", None, r_by_paths, FOUR, order, (), value)
        self.refuses("InvalidOrder", None, r_by_paths, RING, ((0,),), (), ())

    def test_more_paths_than_are_added(self):
        longest = longest_member(TWENTY)
        order = mirror_row(TWENTY, longest)
        with mock.patch.object(module, "MAX_PATHS", 375):
            self.assertEqual(r_by_paths(TWENTY, order, (), longest), r_poly(TWENTY, (), longest))
        with mock.patch.object(module, "MAX_PATHS", 374):
            self.refuses("TooMany", 374, r_by_paths, TWENTY, order, (), longest)
            self.refuses("InvalidWord", None, r_by_paths, TWENTY, order, (), None)


if __name__ == "__main__":
    unittest.main()
