import itertools
import random
import unittest

from tests.reference import BIG, FIVE, FOUR, RING, SMALL, SQUARE, TWENTY
from tests.support import WRONG, Case, error_of
from underwords.algebra.elements import Element, letter_element, unit_element
from underwords.base.polys import Poly
from underwords.groups.systems import System
from underwords.groups.words import inverse, left_letters, members, normal, of_length, right_letters
from underwords.ones import polys as module
from underwords.ones.polys import c_element, mu, p_by_bar, p_poly, p_row
from underwords.paths.orders import longest_member
from underwords.ratio.rs import r_row
from underwords.rows.rows import word_of
from underwords.under.under import is_under, members_under

ONE, ZERO, Q = Poly((1,)), Poly(()), Poly((0, 1))
TWO = System.ring(2)
SYSTEMS = SMALL + BIG


def by_definition(system, high):
    """P of all members under one by [0.16]: the sum of R(u, x) P(x, w) is q to the difference, times the turned P."""
    lot = members_under(system, high)
    rows = {x: r_row(system, x) for x in lot}
    found = {high: ONE}
    for low in reversed(lot[:-1]):
        size = len(high) - len(low)
        total = sum((rows[x][low] * found[x] for x in found if low in rows[x]), ZERO)
        found[low] = Poly(tuple(-total.at(at) for at in range((size - 1) // 2 + 1)))
        assert found[low].turned().moved(size) == total + found[low]
    return {low: found[low] for low in lot}


def some(system, most, many, chance):
    most = min(most, 4) if system.letters == 4 else most
    found = [word for size in range(most + 1) for word in of_length(system, size)]
    return found if len(found) <= many else [(), *chance.sample(found, many)]


class PTest(Case):
    def test_constant(self):
        self.assertEqual(module.MAX_UNDER, 120)

    def test_by_letters_by_the_bar_and_by_definition(self):
        chance = random.Random(1)
        for system in SYSTEMS:
            for high in some(system, 6, 10, chance):
                wanted = by_definition(system, high)
                for told in (p_row(system, high), p_by_bar(system, high)):
                    self.assertEqual(told, wanted)
                    self.assertEqual(tuple(told), members_under(system, high))
                for low in some(system, 4, 10, chance):
                    self.assertEqual(p_poly(system, low, high), wanted.get(low, ZERO))

    def test_all_members_of_large_systems(self):
        for system in (FOUR, FIVE, TWENTY, System.signed(3)):
            for high in members(system):
                told = p_row(system, high)
                self.assertEqual(told, p_by_bar(system, high))
                for low, poly in told.items():
                    self.assertTrue(min(poly.coefficients) >= 0 and poly.at(0) == 1)
                    self.assertTrue(low == high or 2 * poly.degree <= len(high) - len(low) - 1)
                    self.assertTrue(len(high) - len(low) > 2 or poly == ONE)

    def test_turned_sums(self):
        for system in (FOUR, TWENTY):
            rows = {x: r_row(system, x) for x in members(system)}
            for high in members(system)[::5]:
                row = p_row(system, high)
                for low in row:
                    size = len(high) - len(low)
                    total = sum((rows[x][low] * row[x] for x in row if low in rows[x]), ZERO)
                    self.assertEqual(row[low].turned().moved(size), total)

    def test_properties(self):
        chance = random.Random(2)
        for system in SYSTEMS:
            for high in some(system, 6, 6, chance):
                row = p_row(system, high)
                total = sum((poly.moved(len(low)) for low, poly in row.items()), ZERO)
                self.assertTrue(total.is_alike_turned and (total.lowest, total.degree) == (0, len(high)))
                for low, poly in row.items():
                    self.assertEqual(p_poly(system, inverse(system, low), inverse(system, high)), poly)
                    for s in left_letters(system, high):
                        self.assertEqual(row[normal(system, (s,) + low)], poly)
                    for s in right_letters(system, high):
                        self.assertEqual(row[normal(system, low + (s,))], poly)
                    for x in list(row)[::3]:
                        if is_under(system, low, x):
                            self.assertTrue(all(poly.at(at) >= row[x].at(at) for at in range(len(high))))

    def test_two_letters(self):
        for bond in (0, 2, 3, 4, 5, 6):
            system = System.polygon(bond)
            for size in range(8):
                for high in of_length(system, size):
                    self.assertTrue(all(poly == ONE for poly in p_row(system, high).values()))
        row = p_row(TWO, (0, 1) * 20)
        self.assertTrue(len(row) == 80 and all(poly == ONE for poly in row.values()))
        self.assertEqual(p_by_bar(TWO, (0, 1) * 20), row)

    def test_longest_members_are_smooth(self):
        for system in (FIVE, TWENTY, SQUARE):
            row = p_row(system, longest_member(system))
            self.assertEqual((len(row), set(map(str, row.values()))), (len(members(system)), {"1"}))

    def test_words_need_not_be_normal(self):
        self.assertEqual(p_row(FOUR, (1, 2, 0, 1, 2, 2)), p_row(FOUR, (1, 0, 2, 1)))
        self.assertEqual(p_by_bar(FOUR, (1, 2, 0, 1, 2, 2)), p_row(FOUR, (1, 0, 2, 1)))
        self.assertEqual(p_poly(FOUR, (2, 1, 2, 2, 1), (1, 2, 0, 1)), Poly((1,)))
        self.assertEqual(p_poly(FOUR, (1, 0, 0), (1, 2, 0, 1)), Poly((1, 1)))
        self.assertEqual(mu(FOUR, (1, 0, 0), (1, 2, 0, 1)), 1)

    def test_not_true_ones(self):
        row = word_of((4, 5, 3, 1, 2))
        self.assertEqual(str(p_poly(FIVE, (), row)), "1 + q^2")
        self.assertEqual(p_poly(FOUR, (), (0, 1, 2)), ONE)
        told = [(low, high) for high in members(FOUR) for low in p_row(FOUR, high) if p_poly(FOUR, low, high) == ONE
                and any(p_poly(FOUR, x, high) != ONE for x in members_under(FOUR, low))]
        self.assertTrue(told)


class MuTest(Case):
    def test_by_p(self):
        chance = random.Random(3)
        for system in SYSTEMS:
            for high in some(system, 6, 7, chance):
                row = p_row(system, high)
                for low in some(system, 6, 10, chance) + list(row)[::5]:
                    size = len(high) - len(low)
                    wanted = row[low].at((size - 1) // 2) if low in row and size % 2 else 0
                    self.assertEqual(mu(system, low, high), wanted)
                    self.assertEqual(type(mu(system, low, high)), int)

    def test_letters_of_one_alone(self):
        for system in (FOUR, TWENTY):
            for high in members(system)[::9]:
                for low in members_under(system, high)[::2]:
                    for s in left_letters(system, high):
                        if s not in left_letters(system, low) and normal(system, (s,) + low) != high:
                            self.assertEqual(mu(system, low, high), 0)

    def test_one_member_and_none(self):
        self.assertEqual([mu(FOUR, (0,), (0,)), mu(FOUR, (), (0,)), mu(FOUR, (0,), ()), mu(FOUR, (0, 1), (2,))], [0, 1, 0, 0])


class CTest(Case):
    def test_by_its_bar(self):
        chance = random.Random(4)
        for system in SYSTEMS:
            for high in some(system, 6, 6, chance):
                made = c_element(system, high)
                self.assertEqual(made.entries, p_row(system, high))
                self.assertEqual(made.bar(), made.times(ONE.moved(-len(high))))
                self.assertEqual(made.system, system)

    def test_products_with_letters(self):
        chance = random.Random(5)
        for system in SYSTEMS:
            for high in some(system, 5, 4, chance):
                made = c_element(system, high)
                for s in range(system.letters):
                    self.check_product(system, high, s, (letter_element(system, s) + unit_element(system)) * made, True)
                    self.check_product(system, high, s, made * (letter_element(system, s) + unit_element(system)), False)

    def check_product(self, system, high, s, told, is_left):
        letters = left_letters if is_left else right_letters
        if s in letters(system, high):
            self.assertEqual(told, c_element(system, high).times(Poly((1, 1))))
            return
        wanted = c_element(system, normal(system, (s,) + high if is_left else high + (s,)))
        for low in members_under(system, high)[:-1]:
            if mu(system, low, high) and s in letters(system, low):
                by = (len(high) - len(low) + 1) // 2
                wanted = wanted + c_element(system, low).times(Poly((mu(system, low, high),)).moved(by))
        self.assertEqual(told, wanted)

    def test_first_member(self):
        self.assertEqual(c_element(FOUR, ()), unit_element(FOUR))
        self.assertEqual(c_element(FOUR, (0, 0, 1)), letter_element(FOUR, 1) + unit_element(FOUR))
        self.assertEqual(c_element(FOUR, (1, 0)), Element(FOUR, {word: ONE for word in ((), (0,), (1,), (1, 0))}))


class ErrorsTest(Case):
    def test_wrong_words(self):
        for value in WRONG:
            for act in (p_row, p_by_bar, c_element):
                self.refuses("InvalidSystem", None, act, value, value)
                if value != ():
                    self.refuses("InvalidWord", None, act, FOUR, value)
            for act in (p_poly, mu):
                self.refuses("InvalidSystem", None, act, value, value, value)
                if value != ():
                    self.refuses("InvalidWord", None, act, FOUR, value, (3,))
                    self.refuses("InvalidWord", None, act, FOUR, (0,), value)

    def test_more_than_120_members_under_one(self):
        long = (0, 1, 2) * 13
        for act in (p_row, p_by_bar, c_element):
            self.refuses("TooMany", 120, act, RING, long)
        for act in (p_poly, mu):
            self.refuses("TooMany", 120, act, RING, long, long)
            self.refuses("TooMany", 120, act, RING, (2, 1, 0) * 13, long)
            self.refuses("InvalidWord", None, act, RING, (3,), long)
            self.refuses("InvalidWord", None, act, RING, long, (3,))
            self.assertFalse(error_of(act, RING, long, (0, 1))[1])
        close, wide = (0, 1, 0, 2, 0, 1, 2, 0, 1, 2, 0, 1), (0, 1, 2, 0, 1, 0, 2, 0, 1, 0, 2)
        self.assertEqual(len(p_row(RING, close)), 120)
        self.assertEqual(p_row(RING, close), p_by_bar(RING, close))
        self.assertEqual(len(c_element(RING, close)), 120)
        self.refuses("TooMany", 120, p_row, RING, wide)

    def test_pairs_of_letters(self):
        for one, other in itertools.product(range(3), repeat=2):
            self.assertEqual(p_poly(FOUR, (one,), (other,)), ONE if one == other else ZERO)


if __name__ == "__main__":
    unittest.main()
