"""The main statements [0.18] to [0.22], over several modules at once."""

import itertools
import random
import unittest

from tests.reference import BIG, FIVE, FOUR, RING, SMALL, SQUARE, TWENTY
from underwords.base.polys import Poly
from underwords.groups.systems import System
from underwords.groups.words import inverse, members, of_length, shortest_words
from underwords.loose.loose import is_loose
from underwords.ones.masks import is_tight, mask_row
from underwords.ones.matchings import p_of_lot, r_of_lot
from underwords.ones.polys import p_by_bar, p_poly, p_row
from underwords.ones.smooth import is_smooth, mirrors_at, row_paper
from underwords.paths.orders import longest_member, mirror_row
from underwords.ratio.rs import r_by_paths, r_poly, r_row
from underwords.rows.rows import pattern_places, row_of, word_of
from underwords.sheaf.webs import makers
from underwords.under.intervals import interval, numbers
from underwords.under.lots import lot_likeness, lot_of
from underwords.under.under import is_under, is_under_paper, members_under, under_paper

ONE = Poly((1,))
SIGNED = System.signed(3)


def some(system, least, most, many, chance):
    found = [word for size in range(least, most + 1) for word in of_length(system, size)]
    return found if len(found) <= many else chance.sample(found, many)


class StatementsTest(unittest.TestCase):
    def test_one_of_both_papers(self):
        chance = random.Random(1)
        for system in SMALL + BIG:
            told = some(system, 0, 4, 30, chance)
            for one, other in [chance.sample(told, 2) if len(told) > 1 else (told[0], told[0]) for _ in range(30)]:
                kind = "places" if is_under(system, one, other) else "bar"
                paper = under_paper(system, one, other)
                self.assertEqual(paper[0], kind)
                self.assertTrue(is_under_paper(system, one, other, paper))

    def test_one_polynomial_by_all_roads(self):
        chance = random.Random(2)
        told = [(system, word) for system in (FOUR, SIGNED, TWENTY, SQUARE) for word in some(system, 3, 6, 12, chance)]
        told += [(system, word) for system in SMALL + BIG for word in some(system, 3, 5 if system.letters < 4 else 4, 2, chance)]
        odd = 0
        for system, word in told:
            lot = lot_of(system, word)
            row = p_row(system, word)
            odd += row[()] != ONE
            self.assertEqual(row, p_by_bar(system, word))
            self.assertEqual(row, makers(system, word))
            if len(lot) <= 60:
                self.assertEqual(list(row.values()), [p_of_lot(lot, at, len(lot) - 1) for at in range(len(lot))])
            if is_tight(system, word):
                self.assertEqual(row, mask_row(system, word))
            else:
                self.assertNotEqual(row, mask_row(system, word))
            self.assertEqual(is_smooth(system, word), all(poly == ONE for poly in row.values()))
            for low, poly in row.items():
                self.assertTrue(min(poly.coefficients) >= 0)
        self.assertTrue(odd > 5)

    def test_alike_lots_of_unlike_systems_have_equal_polynomials(self):
        chance = random.Random(3)
        told = [(system, word) for system in (FOUR, SIGNED, TWENTY, RING, System(3, ((0, 1, 6), (1, 2, 4)))) for word in some(system, 3, 5, 14, chance)]
        alike = 0
        for (system, one), (other_system, other) in itertools.combinations(told, 2):
            first, second = lot_of(system, one), lot_of(other_system, other)
            if first.ranks == second.ranks and len(first) <= 60:
                likeness = lot_likeness(first, second)
                if likeness is not None:
                    alike += one != other
                    lows, highs = members_under(system, one), members_under(other_system, other)
                    p_one, p_other = p_row(system, one), p_row(other_system, other)
                    r_one, r_other = r_row(system, one), r_row(other_system, other)
                    for at, low in enumerate(lows):
                        self.assertEqual(p_one[low], p_other[highs[likeness[at]]])
                        self.assertEqual(r_one[low], r_other[highs[likeness[at]]])
                        self.assertEqual(r_one[low], r_of_lot(first, at, len(first) - 1))
        self.assertTrue(alike > 10)

    def test_smooth_or_not(self):
        chance = random.Random(4)
        for system in SMALL + BIG:
            for word in some(system, 3, 5 if system.letters < 4 else 4, 3, chance):
                counts = [mirrors_at(system, word, low) for low in members_under(system, word)]
                told = numbers(system, word)
                self.assertEqual(min(counts), len(word))
                self.assertEqual(is_smooth(system, word), max(counts) == len(word))
                self.assertEqual(is_smooth(system, word), told == told[::-1])
        for places in range(2, 6):
            for row in itertools.permutations(range(1, places + 1)):
                barred = any(pattern_places(row, pattern) for pattern in ((3, 4, 1, 2), (4, 2, 3, 1)))
                self.assertEqual((is_smooth(System.rows(places), word_of(row)), row_paper(row)[0]),
                                 (not barred, "pattern" if barred else "smooth"))

    def test_r_by_paths_in_several_orders(self):
        chance = random.Random(5)
        for system in (FOUR, SQUARE, SIGNED):
            orders = [mirror_row(system, word) for word in chance.sample(shortest_words(system, longest_member(system)), 2)]
            for low, high in [chance.sample(members(system), 2) for _ in range(12)]:
                self.assertEqual({str(r_by_paths(system, order, low, high)) for order in orders}, {str(r_poly(system, low, high))})

    def test_tight_and_loose_rows(self):
        for places in range(2, 6):
            for word in members(System.rows(places)):
                has = places > 2 and pattern_places(row_of(word, places), (3, 2, 1)) is not None
                self.assertEqual((is_tight(System.rows(places), word), is_loose(System.rows(places), word)), (not has, not has))

    def test_sentences_that_are_false(self):
        rows = {word: p_row(FOUR, word) for word in members(FOUR)}
        pairs = [(low, high, poly) for high, row in rows.items() for low, poly in row.items()]
        lengths = {}
        for low, high, poly in pairs:
            lengths.setdefault((len(low), len(high)), set()).add(str(poly))
        self.assertTrue(any(len(told) > 1 for told in lengths.values()))
        self.assertTrue(any(min(poly.coefficients) < 0 for poly in r_row(FOUR, (0, 1, 0)).values()))
        self.assertFalse(is_under(FOUR, (0, 1), (1, 0, 2)))
        self.assertEqual(p_poly(FIVE, (), word_of((4, 5, 3, 1, 2))).coefficients, (1, 0, 1))
        counts = {}
        for low, high, poly in pairs:
            sizes = [len(word) for word in interval(FOUR, low, high)]
            counts.setdefault(tuple(sizes.count(size) for size in range(len(low), len(high) + 1)), set()).add(str(poly))
        for system in (SIGNED,):
            for high in members(system)[::3]:
                for low, poly in p_row(system, high).items():
                    sizes = [len(word) for word in interval(system, low, high)]
                    counts.setdefault(tuple(sizes.count(size) for size in range(len(low), len(high) + 1)), set()).add(str(poly))
        self.assertTrue(any(len(told) > 1 for told in counts.values()))
        self.assertTrue(any(poly != p_poly(FOUR, low, inverse(FOUR, high)) for low, high, poly in pairs))
        bad = [word for word in members(SIGNED) if not is_smooth(SIGNED, word) and mirrors_at(SIGNED, word, ()) == len(word)]
        self.assertIn((0, 1, 0, 2, 1, 0, 1, 2), bad)
        for word in members(FIVE):
            self.assertTrue(is_smooth(FIVE, word) or mirrors_at(FIVE, word, ()) > len(word))


if __name__ == "__main__":
    unittest.main()
