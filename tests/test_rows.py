import itertools
import random
import unittest

from tests.support import WRONG, Case
from underwords.groups.systems import System
from underwords.groups.words import left_letters, length, members, normal, product, right_letters
from underwords.rows import rows as module
from underwords.rows.rows import (
    corner, is_corner, is_pattern_places, pattern_places, row_of, signed_row_of, word_of, word_of_signed,
)
from underwords.under.under import is_under


def all_rows(places):
    return list(itertools.permutations(range(1, places + 1)))


def all_signed(places):
    return [tuple(sign * entry for sign, entry in zip(signs, row)) for row in all_rows(places)
            for signs in itertools.product((1, -1), repeat=places)]


def led(word, places):
    row = list(range(1, places + 1))
    for at in word:
        row[at], row[at + 1] = row[at + 1], row[at]
    return tuple(row)


def signed_led(word, places):
    row = list(range(1, places + 1))
    for at in word:
        if at == 0:
            row[0] = -row[0]
        else:
            row[at - 1], row[at] = row[at], row[at - 1]
    return tuple(row)


def doubled(row):
    return tuple(-entry for entry in reversed(row)) + row


def corners_of(first, second, entries):
    return [(i, j) for i in range(1, len(first) + 1) for j in sorted(entries)
            if sum(entry >= j for entry in first[:i]) > sum(entry >= j for entry in second[:i])]


class RowsTest(Case):
    def test_constants(self):
        self.assertEqual((module.MOST_PLACES, module.MOST_SIGNED), (5, 3))

    def test_rows_of_all_members(self):
        for places in range(2, 6):
            system = System.rows(places)
            told = {word: row_of(word, places) for word in members(system)}
            self.assertEqual(sorted(told.values()), all_rows(places))
            for word, row in told.items():
                self.assertEqual((row, word_of(row)), (led(word, places), word))
                self.assertEqual(len(word), sum(row[a] > row[b] for a, b in itertools.combinations(range(places), 2)))
                self.assertEqual(right_letters(system, word), tuple(i for i in range(places - 1) if row[i] > row[i + 1]))
                self.assertEqual(left_letters(system, word),
                                 tuple(i for i in range(places - 1) if row.index(i + 2) < row.index(i + 1)))

    def test_signed_rows_of_all_members(self):
        for places in (2, 3):
            system = System.signed(places)
            told = {word: signed_row_of(word, places) for word in members(system)}
            self.assertEqual(sorted(told.values()), sorted(all_signed(places)))
            for word, row in told.items():
                self.assertEqual((row, word_of_signed(row)), (signed_led(word, places), word))
                falls = sum(row[a] > row[b] for a, b in itertools.combinations(range(places), 2))
                below = sum(row[a] + row[b] < 0 for a, b in itertools.combinations_with_replacement(range(places), 2))
                self.assertEqual(len(word), falls + below)

    def test_words_of_all_kinds(self):
        chance = random.Random(1)
        for places in range(2, 6):
            for _ in range(60):
                word = tuple(chance.randrange(places - 1) for _ in range(chance.randrange(41)))
                self.assertEqual(row_of(word, places), led(word, places))
                self.assertEqual(word_of(led(word, places)), normal(System.rows(places), word))
                if places < 4:
                    word = tuple(chance.randrange(places) for _ in range(chance.randrange(41)))
                    self.assertEqual(signed_row_of(word, places), signed_led(word, places))
                    self.assertEqual(word_of_signed(signed_led(word, places)), normal(System.signed(places), word))

    def test_products(self):
        for one, other in itertools.product(all_rows(4), repeat=2):
            told = row_of(product(System.rows(4), word_of(one), word_of(other)), 4)
            self.assertEqual(told, tuple(one[entry - 1] for entry in other))

    def test_words_and_rows_that_are_refused(self):
        for value in (*WRONG, 1, 6, 0):
            self.refuses("InvalidNumber", value, row_of, value, value)
            self.refuses("InvalidNumber", value, row_of, None, value)
            self.refuses("InvalidNumber", value, signed_row_of, value, value)
            self.refuses("InvalidNumber", value, signed_row_of, (), value)
        for value in (1, 4, 5, True):
            self.refuses("InvalidNumber", value, signed_row_of, (0,), value)
        for value in WRONG:
            if value != ():
                self.refuses("InvalidWord", None, row_of, value, 3)
                self.refuses("InvalidWord", None, signed_row_of, value, 3)
        self.refuses("InvalidWord", None, row_of, (2,), 3)
        self.refuses("InvalidWord", None, signed_row_of, (2,), 2)
        self.assertEqual((row_of((2,), 4), signed_row_of((2,), 3), row_of((), 2)), ((1, 2, 4, 3), (1, 3, 2), (1, 2)))
        for value in (*WRONG, (), (1,), (1, 1), (0, 1), (1, 3), [1, 2], (1, 2, 3, 4, 5, 6), (True, 2), (1, -2), (2, 1, 2), (1, 2.0)):
            self.refuses("InvalidRow", None, word_of, value)
        for value in (*WRONG, (), (1,), (-1,), (1, -1), (0, 1), (1, 2, 3, 4), [1, 2], (True, 2), (-2, 3), (1, 2, -2), (1, None)):
            self.refuses("InvalidRow", None, word_of_signed, value)


class CornersTest(Case):
    def check_pairs(self, rows, words, system, is_signed):
        for one, other in itertools.product(rows, repeat=2):
            first, second = (doubled(one), doubled(other)) if is_signed else (one, other)
            wanted = corners_of(first, second, first)
            self.assertEqual(corner(one, other), wanted[0] if wanted else None)
            self.assertEqual(not wanted, is_under(system, words[one], words[other]))

    def test_rows_against_under(self):
        for places in (2, 3, 4):
            rows = all_rows(places)
            self.check_pairs(rows, {row: word_of(row) for row in rows}, System.rows(places), False)
        rows = random.Random(2).sample(all_rows(5), 40)
        self.check_pairs(rows, {row: word_of(row) for row in rows}, System.rows(5), False)

    def test_signed_rows_against_under(self):
        for places in (2, 3):
            system = System.signed(places)
            rows = all_signed(places)
            words = {row: word_of_signed(row) for row in rows}
            for one, other in itertools.product(rows, repeat=2):
                self.assertEqual(length(system, words[one]), len(words[one]))
                if min(one + other) < 0:
                    wanted = corners_of(doubled(one), doubled(other), doubled(one))
                    self.assertEqual(corner(one, other), wanted[0] if wanted else None)
                    self.assertEqual(not wanted, is_under(system, words[one], words[other]))
                else:
                    wanted = corners_of(one, other, one)
                    self.assertEqual(corner(one, other), wanted[0] if wanted else None)

    def test_values_that_are_judged(self):
        for one, other in itertools.product(all_rows(3), repeat=2):
            wanted = corners_of(one, other, one)
            for value in itertools.product(range(-1, 5), repeat=2):
                self.assertIs(is_corner(one, other, value), value in wanted)
        for one, other in itertools.product(all_signed(2), repeat=2):
            if min(one + other) < 0:
                wanted = corners_of(doubled(one), doubled(other), doubled(one))
                for value in itertools.product(range(-3, 6), repeat=2):
                    self.assertIs(is_corner(one, other, value), value in wanted)
        for value in (*WRONG, [1, 2], (1,), (1, 2, 3), (True, 2), (1, None), None, 12, (1.0, 2), ((1, 2),), (10 ** 5000, 1)):
            self.assertIs(is_corner((2, 1, 3), (1, 3, 2), value), False, value)
        self.assertIs(is_corner((2, 1, 3), (1, 3, 2), (1, 2)), True)
        self.assertIs(is_corner((2, 1), (1, 2), (1, True)), False)

    def test_a_row_and_a_signed_row(self):
        self.assertEqual(corner((1, 2, 3), (-1, 2, 3)), None)
        self.assertEqual(corner((-1, 2, 3), (1, 2, 3)), corners_of(doubled((-1, 2, 3)), doubled((1, 2, 3)), (-3, -2, -1, 1, 2, 3))[0])
        self.assertEqual(corner((3, 2, 1), (1, 2, 3)), (1, 2))
        self.assertIs(is_corner((3, 2, 1), (1, 2, -3), (6, 1)), False)

    def test_not_true_ones(self):
        self.assertIsNone(corner((1, 3, 2), (2, 3, 1)))
        self.assertTrue(any(one != other and corner(one, other) is None and any(a > b for a, b in zip(one, other))
                            for one in all_rows(3) for other in all_rows(3)))

    def test_errors(self):
        for value in (*WRONG, (), (1, 1), (1, 2, 3, 4, 5, 6), (1, 2, 3, -4), (0, 1), (True, 2), (-1,)):
            self.refuses("InvalidRow", None, corner, value, None)
            self.refuses("InvalidRow", None, corner, (1, 2, 3, 4), value)
            self.refuses("InvalidRow", None, is_corner, value, None, None)
            self.refuses("InvalidRow", None, is_corner, (-1, 2), value, (1, 1))
        for one, other in (((1, 2), (1, 2, 3)), ((-1, 2), (1, 2, 3, 4)), ((1, 2, 3, 4, 5), (-1, 2)), ((1, -2, 3), (1, -2))):
            self.refuses("InvalidOperation", None, corner, one, other)
            self.refuses("InvalidOperation", None, is_corner, one, other, (1, 1))


class PatternsTest(Case):
    def places_of(self, row, pattern):
        return [places for places in itertools.combinations(range(len(row)), len(pattern))
                if [sorted(row[at] for at in places).index(row[at]) + 1 for at in places] == list(pattern)]

    def test_all_rows_and_patterns(self):
        for size in range(2, 6):
            for row in all_rows(size)[::1 if size < 5 else 3]:
                for pattern in [told for many in range(2, size + 1) for told in all_rows(many)[::1 if many < 5 else 7]]:
                    wanted = self.places_of(row, pattern)
                    told = pattern_places(row, pattern)
                    self.assertTrue(told in wanted if wanted else told is None)
                    for places in itertools.combinations(range(size), len(pattern)):
                        self.assertIs(is_pattern_places(row, pattern, places), places in wanted)

    def test_values_near_to_places(self):
        self.assertEqual(pattern_places((1, 2), (2, 1, 3)), None)
        self.assertIs(is_pattern_places((1, 2), (1, 2, 3), (0, 1, 2)), False)
        for value in (*WRONG, (2, 0), (0, 0), (0,), (0, 1, 2), [0, 2], (0, 4), (-1, 2), (False, 2), (0, 2.0), (0, None), None, "02"):
            self.assertIs(is_pattern_places((4, 2, 3, 1), (2, 1), value), False, value)
        self.assertIs(is_pattern_places((4, 2, 3, 1), (2, 1), (0, 3)), True)
        self.assertIs(is_pattern_places((4, 2, 3, 1), (2, 1), (1, 2)), False)

    def test_a_row_and_the_one_that_undoes_it(self):
        told = [row for row in all_rows(4) for pattern in all_rows(3)
                if (pattern_places(row, pattern) is None) != (pattern_places(tuple(row.index(at) + 1 for at in range(1, 5)), pattern) is None)]
        self.assertTrue(told)

    def test_errors(self):
        for value in (*WRONG, (), (1,), (-1, 2), (1, 2, 3, 4, 5, 6), (True, 2)):
            self.refuses("InvalidRow", None, pattern_places, value, None)
            self.refuses("InvalidRow", None, pattern_places, (1, 2), value)
            self.refuses("InvalidRow", None, is_pattern_places, value, None, None)
            self.refuses("InvalidRow", None, is_pattern_places, (1, 2), value, (0, 1))


if __name__ == "__main__":
    unittest.main()
