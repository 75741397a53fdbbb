import itertools
import random
import unittest

from tests.reference import BIG, FIVE, FOUR, RING, SMALL, SQUARE, TWENTY
from tests.support import WRONG, Case
from underwords.base.polys import Poly
from underwords.groups.mirrors import mirrors
from underwords.groups.systems import System
from underwords.groups.words import inverse, members, normal, of_length, shortest_words
from underwords.ones.polys import p_row
from underwords.ones.smooth import (
    is_row_paper, is_smooth, is_smooth_paper, mirrors_at, row_paper, smooth_paper, worst_members,
)
from underwords.rows.rows import word_of
from underwords.under.intervals import numbers
from underwords.under.under import is_under, members_under

ONE = Poly((1,))
SIGNED = System.signed(3)
EIGHT, SEVEN = (0, 1, 0, 2, 1, 0, 1, 2), (1, 0, 1, 2, 1, 0, 1)
HUNDRED_TWENTY, MORE = (0, 1, 0, 2, 0, 1, 2, 0, 1, 2, 0, 1), (0, 1, 2, 0, 1, 0, 2, 0, 1, 0, 2)


def mirrors_under(system, word, member):
    """How many mirrors lead the member under the one of the word; in an endless system those that stand in a word of both."""
    found = set()
    for low in members_under(system, word):
        # The mirror t with t u = x has the word x u' of odd length.
        told = normal(system, low + inverse(system, member))
        if len(told) % 2 and any(normal(system, told[:at] + told[at + 1:]) == () for at in range(len(told))):
            found.add(told)
    return len(found)


def some(system, most, many, chance):
    found = [word for size in range(most + 1) for word in of_length(system, size)]
    return found if len(found) <= many else chance.sample(found, many)


class SmoothTest(Case):
    def test_mirrors_at_all_members_of_small_lots(self):
        for system in (System.rows(3), FOUR, SQUARE, SIGNED):
            told = mirrors(system)
            for word in members(system)[::3]:
                for low in members_under(system, word):
                    count = sum(is_under(system, mirror + low, word) for mirror in told)
                    self.assertEqual(mirrors_at(system, word, low), count)
                    self.assertTrue(count >= len(word))

    def test_mirrors_in_all_kinds_of_systems(self):
        chance = random.Random(1)
        for system in SMALL + BIG:
            for word in some(system, 4, 4, chance):
                for low in members_under(system, word):
                    self.assertEqual(mirrors_at(system, word, low), mirrors_under(system, word, low))

    def test_words_need_not_be_normal(self):
        self.assertEqual(mirrors_at(FOUR, (1, 2, 0, 1, 2, 2), (1, 2, 2)), mirrors_at(FOUR, (1, 0, 2, 1), (1,)))
        self.assertIs(is_smooth(FOUR, (1, 2, 0, 1)), False)
        self.assertEqual(smooth_paper(FOUR, (1, 0, 1, 2, 2)), ("smooth", (1, 2, 2, 1)))
        self.assertEqual(worst_members(FOUR, (1, 2, 0, 1)), ((1,),))

    def test_smooth_or_not_by_each_way(self):
        chance = random.Random(2)
        told = [(system, word) for system in (FOUR, SQUARE, TWENTY, SIGNED, FIVE) for word in members(system)[::2]]
        told += [(system, word) for system in SMALL + BIG for word in some(system, 5 if system.letters < 4 else 4, 4, chance)]
        kinds = set()
        for system, word in told:
            row = p_row(system, word)
            wanted = all(poly == ONE for poly in row.values())
            kinds.add(wanted)
            self.assertIs(is_smooth(system, word), wanted)
            self.assertEqual(row[()] == ONE, wanted)
            self.assertEqual(numbers(system, word) == numbers(system, word)[::-1], wanted)
            counts = {low: mirrors_at(system, word, low) for low in list(row)[::4] + [word]}
            paper = smooth_paper(system, word)
            if wanted:
                self.assertEqual(set(counts.values()), {len(word)})
                self.assertEqual(paper, ("smooth", numbers(system, word)))
            else:
                self.assertEqual((paper[0], paper[2]), ("mirrors", mirrors_at(system, word, paper[1])))
                self.assertTrue(paper[1] in row and paper[2] > len(word))
            self.assertIs(is_smooth_paper(system, word, paper), True)
        self.assertEqual(kinds, {True, False})

    def test_worst_members(self):
        chance = random.Random(3)
        told = [(system, word) for system in (FOUR, SIGNED, TWENTY, FIVE) for word in members(system)[::1 if system == FOUR else 3]]
        told += [(system, word) for system in SMALL for word in some(system, 6, 3, chance)]
        several = 0
        for system, word in told:
            row = p_row(system, word)
            bad = [low for low in row if row[low] != ONE]
            worst = worst_members(system, word)
            several += len(worst) > 1
            self.assertEqual(worst, tuple(low for low in bad if not any(is_under(system, low, other) for other in bad if other != low)))
            self.assertEqual(bad, [low for low in row if any(is_under(system, low, high) for high in worst)])
        self.assertTrue(several)

    def test_edges(self):
        self.assertEqual((is_smooth(FOUR, ()), smooth_paper(RING, ()), worst_members(RING, ())), (True, ("smooth", (1,)), ()))
        self.assertEqual((mirrors_at(RING, (), ()), mirrors_at(RING, (1,), ())), (0, 1))
        self.assertEqual(mirrors_at(System.ring(2), (0, 1) * 20, ()), 40)
        self.assertEqual(smooth_paper(System.ring(2), (0, 1) * 20), ("smooth", (1, *[2] * 39, 1)))

    def test_signed_members_that_are_named(self):
        self.assertIs(is_smooth(SIGNED, EIGHT), False)
        self.assertEqual(mirrors_at(SIGNED, EIGHT, ()), 8)
        self.assertNotEqual(p_row(SIGNED, SEVEN)[(0,)], ONE)
        self.assertEqual(mirrors_at(SIGNED, SEVEN, (0,)), 7)
        for word in members(FIVE):
            if mirrors_at(FIVE, word, ()) == len(word):
                self.assertIs(is_smooth(FIVE, word), True)
        for word in members(FOUR):
            for low, poly in p_row(FOUR, word).items():
                self.assertEqual(poly == ONE, mirrors_at(FOUR, word, low) == len(word))

    def test_other_not_true_ones(self):
        lows = [(word, low) for word in members(FIVE) if is_smooth(FIVE, word) for low in members_under(FIVE, word)]
        self.assertTrue(any(not is_smooth(FIVE, low) for word, low in lows))
        self.assertTrue(any(len(worst_members(FIVE, word)) > 1 for word in members(FIVE)))

    def test_papers_near_to_right_ones(self):
        word = (1, 0, 2, 1)
        for low in members_under(FOUR, word):
            for many in range(0, 9):
                self.assertIs(is_smooth_paper(FOUR, word, ("mirrors", low, many)), many == 5 and low in ((), (1,)))
        told = numbers(FOUR, word)
        for value in (("smooth", told), ("smooth", told[::-1]), ("mirrors", (1, 0, 0), 5), ("mirrors", (1,), True), ("mirrors", (True,), 5),
                      ("mirrors", [1], 5), ("mirrors", (1,)), ("mirrors", (1,), 5, 5), ["mirrors", (1,), 5], ("smooth",), ("mirrors", (3,), 5),
                      ("mirrors", None, 5), ("mirrors", (1,), 5.0), ("mirrors", (1,), None), ("Mirrors", (1,), 5), (True, (1,), 5), (), *WRONG):
            self.assertIs(is_smooth_paper(FOUR, word, value), False, value)
        for value in (("smooth", (1, 2, 2, 1)),):
            self.assertIs(is_smooth_paper(FOUR, (0, 1, 0), value), True)
        for value in (("smooth", (True, 2, 2, 1)), ("smooth", [1, 2, 2, 1]), ("smooth", (1, 2, 2)), ("smooth", (1, 2, 2, 1, 0)), ("smooth", None),
                      ("smooth", (1, 2, 2, 1), 1), ("mirrors", (), 3), ("mirrors", (), 4), ("smooth", (1, 2, 2, True)), ("smooth", "1221"), *WRONG):
            self.assertIs(is_smooth_paper(FOUR, (0, 1, 0), value), False, value)
        self.assertIs(is_smooth_paper(FOUR, (1,), ("smooth", (1, True))), False)

    def test_a_normal_word_is_judged(self):
        word = (1, 0, 1, 2, 1, 0, 1)
        row = {low: mirrors_at(SIGNED, word, low) for low in members_under(SIGNED, word)}
        told = [low for low in row if row[low] > 7 and len(shortest_words(SIGNED, low)) > 1]
        self.assertTrue(told)
        for low in told:
            for other in shortest_words(SIGNED, low):
                self.assertIs(is_smooth_paper(SIGNED, word, ("mirrors", other, row[low])), other == low)

    def test_a_hundred_and_twenty_members_and_more(self):
        self.assertEqual(sum(numbers(RING, HUNDRED_TWENTY)), 120)
        for act in (is_smooth, smooth_paper, worst_members):
            self.assertIsNotNone(act(RING, HUNDRED_TWENTY))
            self.refuses("TooMany", 120, act, RING, MORE)
        self.assertTrue(mirrors_at(RING, HUNDRED_TWENTY, ()) >= 12)
        self.refuses("TooMany", 120, mirrors_at, RING, MORE, ())
        self.refuses("InvalidOperation", None, mirrors_at, RING, MORE, (2, 0, 1) * 6)
        self.refuses("InvalidWord", None, mirrors_at, RING, MORE, (3,))
        for value in (None, ("smooth", (1,)), ("mirrors", (), 12)):
            self.refuses("TooMany", 120, is_smooth_paper, RING, MORE, value)
        self.assertIs(is_smooth(RING, MORE + (3,)), False)

    def test_values_that_are_judged(self):
        for value in (*WRONG, (3,), [0], (True,)):
            if value != ():
                self.assertIs(is_smooth(FOUR, value), False)
            self.refuses("InvalidSystem", None, is_smooth, value, (0,))
        for system, word, low in ((FOUR, (0, 1), (2,)), (FOUR, (), (0,)), (FOUR, (0, 1), (1, 0))):
            self.refuses("InvalidOperation", None, mirrors_at, system, word, low)


class RowPapersTest(Case):
    def test_all_rows(self):
        for many in range(2, 6):
            for row in itertools.permutations(range(1, many + 1)):
                word = word_of(row)
                kind, told = row_paper(row)
                bad = [places for places in itertools.combinations(range(many), 4)
                       if [sorted(row[at] for at in places).index(row[at]) + 1 for at in places] in ([3, 4, 1, 2], [4, 2, 3, 1])]
                self.assertEqual(kind, "pattern" if bad else "smooth")
                self.assertIs(is_smooth(System.rows(many), word), not bad)
                self.assertTrue(told in bad if bad else self.product(told) == numbers(System.rows(many), word))
                for places in itertools.combinations(range(many), 4):
                    self.assertIs(is_row_paper(row, ("pattern", places)), places in bad)
                self.assertIs(is_row_paper(row, (kind, told)), True)
                self.assertTrue(kind == "pattern" or list(told) == sorted(told) and all(run >= 1 for run in told))

    def product(self, runs):
        total = Poly((1,))
        for run in runs:
            total = total * Poly((1,) * (run + 1))
        return total.coefficients

    def test_runs_are_told_in_one_way(self):
        for row in itertools.permutations((1, 2, 3, 4)):
            told = row_paper(row)
            for many in range(0, 5):
                for runs in itertools.product(range(0, 4 if many > 3 else 5), repeat=many):
                    self.assertIs(is_row_paper(row, ("smooth", runs)), told == ("smooth", runs))

    def test_values_near_to_papers(self):
        for value in (("smooth", [1, 2, 3]), ("smooth", (True, 2, 3)), ("smooth", (3, 2, 1)), ("smooth", (1, 2, 3), 0), ("smooth",), ("smooth", None),
                      ["smooth", (1, 2, 3)], ("pattern", (0, 1, 2, 3)), ("smooth", (0, 1, 2, 3)), ("pattern", None), (1, 2, 3), "smooth",
                      ("smooth", (1, 2, (3,))), ("smooth", "123"), (None, (1, 2, 3)), *WRONG):
            self.assertIs(is_row_paper((4, 3, 2, 1), value), False, value)
        for value in (("pattern", (False, 1, 2, 3)), ("pattern", [0, 1, 2, 3]), ("pattern", (0, 1, 2)), ("pattern", (1, 0, 2, 3)),
                      ("pattern", (0, 1, 2, 4)), ("smooth", ()), ("smooth", (1, 1, 1, 1)), ("pattern", (0, 1, 2, 3), 0), *WRONG):
            self.assertIs(is_row_paper((3, 4, 1, 2), value), False, value)
        self.assertIs(is_row_paper((3, 4, 1, 2), ("pattern", (0, 1, 2, 3))), True)
        self.assertIs(is_row_paper((4, 2, 3, 1), ("pattern", (0, 1, 2, 3))), True)
        self.assertIs(is_row_paper((1, 2), ("smooth", ())), True)

    def test_errors(self):
        for value in (*WRONG, (1,), (1, 1), (-1, 2), (1, 2, 3, 4, 5, 6), (True, 2)):
            self.refuses("InvalidRow", None, row_paper, value)
            self.refuses("InvalidRow", None, is_row_paper, value, ("smooth", ()))


if __name__ == "__main__":
    unittest.main()
