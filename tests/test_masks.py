import itertools
import random
import unittest

from tests.reference import BIG, FIVE, FOUR, RING, SMALL, SQUARE, TWENTY
from tests.support import WRONG, Case, error_of
from underwords.algebra.elements import letter_element, unit_element
from underwords.base.polys import Poly
from underwords.groups.systems import System
from underwords.groups.words import is_shortest, length, members, normal, of_length, right_letters, shortest_words
from underwords.ones import masks as module
from underwords.ones.masks import (
    defect, first_mask, is_tight, is_tight_paper, letters_product, made_by, mask_poly, mask_row, masks, r_by_masks,
    strict_masks, tight_paper,
)
from underwords.ones.polys import p_row
from underwords.ratio.rs import r_row
from underwords.rows.rows import pattern_places, row_of
from underwords.under.under import members_under

ZERO, ONE, Q, LESS = Poly(()), Poly((1,)), Poly((0, 1)), Poly((-1, 1))
THREE, TWO, SIGNED = System.rows(3), System.ring(2), System.signed(3)
SYSTEMS = SMALL + BIG


def followed(system, word, mask):
    """What a mask makes, how many letters are counted in its defect, and how many of these it has 1 for [11.1], [11.2]."""
    made, many, taken = (), 0, 0
    for letter, entry in zip(word, mask):
        if letter in right_letters(system, made):
            many += 1
            taken += entry
        made = normal(system, made + (letter,) * entry)
    return made, many, taken


def all_masks(word):
    return list(itertools.product((0, 1), repeat=len(word)))


def some_words(system, chance, most):
    """Words of all kinds, and shortest ones."""
    found = [tuple(chance.randrange(system.letters) for _ in range(size)) for size in range(most)]
    return found + [chance.choice(shortest_words(system, word)) for word in found]


class MasksTest(Case):
    def test_constant(self):
        self.assertEqual(module.MAX_MASKED, 10)

    def test_all_masks_of_short_words(self):
        chance = random.Random(1)
        for system in SYSTEMS:
            for word in some_words(system, chance, 6):
                made = {}
                for mask in all_masks(word):
                    low, many, taken = followed(system, word, mask)
                    self.assertEqual((made_by(system, word, mask), defect(system, word, mask)), (low, many))
                    self.assertEqual(len(low), len(word) - mask.count(0) - 2 * taken)
                    made.setdefault(low, []).append((mask, many))
                self.assertEqual(list(mask_row(system, word)), sorted(made))
                for low, pairs in made.items():
                    self.assertEqual(masks(system, word, low), tuple(mask for mask, _ in pairs))
                    wanted = sum((ONE.moved(many) for _, many in pairs), ZERO)
                    self.assertEqual((mask_poly(system, word, low), mask_row(system, word)[low]), (wanted, wanted))
                    self.assertEqual([mask for mask, many in pairs if many == 0], [first_mask(system, word, low)])
                if is_shortest(system, word):
                    self.assertEqual(set(made), set(members_under(system, word)))

    def test_members_that_no_mask_makes(self):
        self.assertEqual((masks(FOUR, (0, 1), (2,)), first_mask(FOUR, (0, 1), (2,)), mask_poly(FOUR, (0, 1), (2,))), ((), None, ZERO))
        self.assertEqual((masks(FOUR, (0, 1), (1, 0)), strict_masks(FOUR, (0, 1), (1, 0)), r_by_masks(FOUR, (0, 1), (1, 0))),
                         ((), (), ZERO))
        self.assertEqual((masks(FOUR, (), ()), first_mask(FOUR, (), ()), mask_row(FOUR, ())), (((),), (), {(): ONE}))
        self.assertEqual((made_by(FOUR, (), ()), defect(FOUR, (), ())), ((), 0))

    def test_words_of_members_need_not_be_normal(self):
        self.assertEqual(masks(FOUR, (0, 1, 0), (1, 0, 1)), ((1, 1, 1),))
        self.assertEqual(masks(FOUR, (0, 0), (2, 2)), ((0, 0), (1, 1)))
        self.assertEqual(first_mask(FOUR, (0, 1, 0), (1, 0, 0, 1, 0)), (0, 0, 1))

    def test_products_of_letters(self):
        chance = random.Random(2)
        for system in SYSTEMS:
            for word in some_words(system, chance, 7):
                wanted = unit_element(system)
                for letter in word:
                    wanted = wanted * (letter_element(system, letter) + unit_element(system))
                told = letters_product(system, word)
                self.assertEqual(told, wanted)
                self.assertEqual(told.entries, mask_row(system, word))

    def test_not_the_same_for_all_shortest_words(self):
        self.assertNotEqual(mask_row(THREE, (0, 1, 0)), mask_row(THREE, (1, 0, 1)))
        self.assertNotEqual(strict_masks(THREE, (0, 1, 0), ()), tuple(mask for mask in masks(THREE, (0, 1, 0), ())
                                                                      if defect(THREE, (0, 1, 0), mask) == 0))

    def test_strict_masks_and_r(self):
        chance = random.Random(3)
        for system in SYSTEMS:
            for word in some_words(system, chance, 7):
                if is_shortest(system, word):
                    row = r_row(system, word)
                    for low in row:
                        told = strict_masks(system, word, low)
                        wanted = []
                        for mask in masks(system, word, low):
                            _, many, taken = followed(system, word, mask)
                            wanted.extend([mask] if many == taken else [])
                        self.assertEqual(told, tuple(wanted))
                        self.assertEqual(r_by_masks(system, word, low), row[low])
                else:
                    self.refuses("InvalidWord", None, strict_masks, system, word, ())
                    self.refuses("InvalidWord", None, r_by_masks, system, word, ())

    def test_longest_words(self):
        word = max(members(TWENTY), key=len)[:10]
        row = r_row(TWENTY, word)
        for low in list(row)[::9]:
            self.assertEqual(r_by_masks(TWENTY, word, low), row[low])
        self.assertEqual(sum((poly.value_at(1) for poly in mask_row(TWENTY, word).values())), 1024)
        self.assertEqual(len(masks(FOUR, (0,) * 10, ())), 512)
        self.assertEqual(mask_poly(FOUR, (0,) * 10, (0, 0)), Poly((1, 1)).raised(9))

    def test_too_long_words(self):
        eleven = (0, 1, 2) * 3 + (0, 1)
        self.assertTrue(is_shortest(RING, eleven))
        calls = [(masks, (eleven, ())), (first_mask, (eleven, ())), (made_by, (eleven, (0,) * 11)), (defect, (eleven, (1,) * 11)),
                 (mask_poly, (eleven, ())), (mask_row, (eleven,)), (letters_product, (eleven,)), (strict_masks, (eleven, ())),
                 (r_by_masks, (eleven, ())), (is_tight, (eleven,)), (tight_paper, (eleven,)), (is_tight_paper, (eleven, None))]
        for act, more in calls:
            self.refuses("TooMany", 10, act, RING, *more)
            ten = [value[:10] if value else value for value in more]
            self.assertIsNone(error_of(act, RING, *ten)[0])
        for act in (made_by, defect):
            for value in ((0,) * 10, None, (0,) * 10 + (2,)):
                self.refuses("InvalidOperation", None, act, RING, eleven, value)
        for act in (masks, first_mask, mask_poly, strict_masks, r_by_masks):
            self.refuses("InvalidWord", None, act, RING, eleven, (3,))
        for act, more in ((strict_masks, ((),)), (r_by_masks, ((),)), (is_tight, ()), (tight_paper, ()), (is_tight_paper, (None,))):
            self.refuses("InvalidWord", None, act, RING, (0,) * 12, *more)
        self.refuses("TooMany", 10, letters_product, RING, (0, 1, 2) * 13)

    def test_products_with_too_many_members(self):
        free = System(4, tuple((i, j, 0) for i, j in itertools.combinations(range(4), 2)))
        for size in range(5, 11):
            word = (0, 1, 2, 3, 0, 1, 2, 3, 0, 1)[:size]
            many = len(mask_row(free, word))
            if many > 120:
                self.refuses("TooMany", 120, letters_product, free, word)
            else:
                self.assertEqual(len(letters_product(free, word)), many)
        self.assertGreater(many, 120)
        self.refuses("TooMany", 10, letters_product, free, (0, 1, 2, 3) * 3)


class TightTest(Case):
    def test_by_all_masks_and_by_p(self):
        chance = random.Random(4)
        kinds = set()
        for system in SYSTEMS:
            for size in range(1, 7):
                high = chance.choice((of_length(system, size) if system.letters < 4 or size < 5 else ()) or [(0,)])
                row = p_row(system, high)
                for word in shortest_words(system, high)[:3]:
                    told = [(mask, *followed(system, word, mask)[:2]) for mask in all_masks(word)]
                    great = [mask for mask, low, many in told if low != high and 2 * many > len(high) - len(low) - 1]
                    self.assertIs(is_tight(system, word), not great)
                    self.assertEqual(sum(poly.value_at(1) for poly in row.values()) == 2 ** len(high), not great)
                    paper = tight_paper(system, word)
                    self.assertTrue(paper == ("tight",) if not great else paper[0] == "mask" and paper[1] in great)
                    self.assertIs(is_tight_paper(system, word, paper), True)
                    self.assertIs(is_tight_paper(system, word, ("tight",)), not great)
                    for mask in all_masks(word):
                        self.assertIs(is_tight_paper(system, word, ("mask", mask)), mask in great)
                    if not great:
                        self.assertEqual(mask_row(system, word), {low: row[low] for low in sorted(row)})
                    kinds.add(bool(great))
        self.assertEqual(kinds, {True, False})

    def test_rows_without_321(self):
        for system in (THREE, FOUR, FIVE):
            for word in members(system)[::1 if system is not FIVE else 3]:
                wanted = system is THREE and len(word) < 3 or system is not THREE and pattern_places(
                    row_of(word, system.letters + 1), (3, 2, 1)) is None
                self.assertIs(is_tight(system, word), wanted)

    def test_three_letters_that_keep_words_from_being_tight(self):
        for system in SYSTEMS:
            for i, j in itertools.permutations(range(system.letters), 2):
                if system.bond_of(i, j) != 2:
                    self.assertIs(is_tight(system, (i, j, i)), False)
        self.assertIs(is_tight(TWO, (0, 1, 0, 1)), False)
        self.assertIs(is_tight(FOUR, ()), True)
        self.assertEqual(tight_paper(FOUR, ()), ("tight",))

    def test_values_near_to_papers(self):
        for value in (*WRONG, ("tight",) * 2, ["tight"], "tight", ("mask",), ("mask", (1, 0)), ("mask", [1, 0, 0]), ("mask", None),
                      ("mask", (True, 0, 0)), ("mask", (1, 0, 0), ()), (("tight",),), ("mask", (2, 0, 0)), ("mask", (1, 1, 1)),
                      ("mask", (0, 0, 0)), ("tight",), ("mask", (1, 0, 1)), ("mask", (1, False, False)), ("word", (1, 0, 0))):
            self.assertIs(is_tight_paper(THREE, (0, 1, 0), value), False, value)
        self.assertIs(is_tight_paper(THREE, (0, 1, 0), ("mask", (1, 0, 0))), True)
        self.assertEqual((made_by(THREE, (0, 1, 0), (1, 0, 0)), defect(THREE, (0, 1, 0), (1, 0, 0))), ((0,), 1))


class ErrorsTest(Case):
    def test_wrong_arguments(self):
        for value in WRONG:
            for act, more in ((masks, 1), (first_mask, 1), (made_by, 1), (defect, 1), (mask_poly, 1), (mask_row, 0), (r_by_masks, 1),
                              (letters_product, 0), (strict_masks, 1), (is_tight, 0), (tight_paper, 0), (is_tight_paper, 1)):
                self.refuses("InvalidSystem", None, act, value, value, *[value] * more)
                if value != ():
                    self.refuses("InvalidWord", None, act, FOUR, value, *[value] * more)
            for act in (masks, first_mask, mask_poly, strict_masks, r_by_masks):
                if value != ():
                    self.refuses("InvalidWord", None, act, FOUR, (0, 1), value)
            for act in (made_by, defect):
                self.refuses("InvalidOperation", None, act, FOUR, (0, 1), value)
        for value in ((0,), (0, 1, 0), (0, 2), (True, 0), (0, False), [0, 1], (0, -1), (0, None)):
            self.refuses("InvalidOperation", None, made_by, FOUR, (0, 1), value)
            self.refuses("InvalidOperation", None, defect, FOUR, (0, 1), value)
        for act in (is_tight, tight_paper):
            self.refuses("InvalidWord", None, act, FOUR, (0, 0))
        self.assertEqual((length(FOUR, (0, 0)), SQUARE.letters), (0, 2))


if __name__ == "__main__":
    unittest.main()
