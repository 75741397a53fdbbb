import itertools
import unittest

from tests.support import WRONG, Case
from underwords.groups.systems import System
from underwords.groups.words import left_letters, right_letters
from underwords.rows.rows import pattern_places, word_of
from underwords.rows.tables import all_tables, bumped, is_table, row_of_tables
from underwords.under.under import is_under


def all_rows(places):
    return list(itertools.permutations(range(1, places + 1)))


def undone(row):
    return tuple(row.index(entry) + 1 for entry in range(1, len(row) + 1))


def shapes(many, most):
    """The tuples of sizes of rows, none longer than the one ahead of it, that add up to so many."""
    if many == 0:
        return [()]
    return [(first, *rest) for first in range(1, min(many, most) + 1) for rest in shapes(many - first, first)]


def filled(shape, entries):
    rest = list(entries)
    return tuple(tuple(rest.pop(0) for _ in range(size)) for size in shape)


def keeps_the_rules(table):
    return all(list(row) == sorted(set(row)) for row in table) and all(
        table[at][place] < table[at + 1][place] for at in range(len(table) - 1) for place in range(len(table[at + 1])))


def tables_of(many):
    return sorted(table for shape in shapes(many, many) for entries in itertools.permutations(range(1, many + 1))
                  if keeps_the_rules(table := filled(shape, entries)))


def longest_rise(row):
    return max(size for size in range(1, len(row) + 1) for places in itertools.combinations(row, size)
               if list(places) == sorted(places))


def row_at(table, entry):
    return next(at for at, entries in enumerate(table) if entry in entries)


class TablesTest(Case):
    def test_all_tables(self):
        for many in range(2, 6):
            self.assertEqual(list(all_tables(many)), tables_of(many))
            self.assertTrue(all(is_table(table) for table in all_tables(many)))
        self.assertEqual([len(all_tables(many)) for many in range(2, 6)], [2, 4, 10, 26])
        self.assertEqual(all_tables(3), (((1,), (2,), (3,)), ((1, 2), (3,)), ((1, 2, 3),), ((1, 3), (2,))))
        for value in (*WRONG, 0, 1, 6):
            self.refuses("InvalidNumber", value, all_tables, value)

    def test_bumped_tables_of_all_rows_and_back(self):
        for many in range(2, 6):
            told = {row: bumped(row) for row in all_rows(many)}
            pairs = [(one, other) for one in tables_of(many) for other in tables_of(many)
                     if list(map(len, one)) == list(map(len, other))]
            self.assertEqual(sorted(told.values()), sorted(pairs))
            for row, (one, other) in told.items():
                self.assertEqual(row_of_tables(one, other), row)
                self.assertEqual(bumped(undone(row)), (other, one))
                self.assertEqual((len(one[0]), len(one)), (longest_rise(row), longest_rise(row[::-1])))
                system, word = System.rows(many), word_of(row)
                letters = range(many - 1)
                self.assertEqual(right_letters(system, word), tuple(i for i in letters if row_at(other, i + 2) > row_at(other, i + 1)))
                self.assertEqual(left_letters(system, word), tuple(i for i in letters if row_at(one, i + 2) > row_at(one, i + 1)))

    def test_steps_of_bumping(self):
        self.assertEqual(bumped((2, 1)), (((1,), (2,)), ((1,), (2,))))
        self.assertEqual(bumped((3, 1, 4, 5, 2)), (((1, 2, 5), (3, 4)), ((1, 3, 4), (2, 5))))
        self.assertEqual(bumped((1, 2, 3, 4, 5)), (((1, 2, 3, 4, 5),), ((1, 2, 3, 4, 5),)))
        self.assertEqual(bumped((5, 4, 3, 2, 1))[1], ((1,), (2,), (3,), (4,), (5,)))

    def test_values_near_to_tables(self):
        for shape in ((2,), (1, 1), (3,), (2, 1), (1, 2), (2, 2), (1, 1, 1), (1, 0, 1), (3, 0)):
            for entries in itertools.product(range(0, 4), repeat=sum(shape)):
                value = filled(shape, entries)
                self.assertIs(is_table(value), value in tables_of(sum(shape)))
        for value in (*WRONG, ((1,),), ((1, 2), [3]), [(1, 2), (3,)], ((1, 2), ()), ((), (1, 2)), ((True, 2),), ((1, 2.0),), ((1, 2), 3),
                      ((1, 2, 3, 4, 5, 6),), ((1, 2, 3), (4, 5), (6,)), ((1, None),), ((1, 2), (2, 3)), ((1, 10 ** 5000),), ((1, (2,)),),
                      ((0, 1),), ((2, 3),), ((1, 3), (2, 3)), ((1, 4), (2, 3)), "12", ("12",)):
            self.assertIs(is_table(value), False, value)
        self.assertIs(is_table(((1, 3), (2, 4))), True)

    def test_errors(self):
        for value in (*WRONG, (1,), (1, 1), (-1, 2), (1, 2, 3, 4, 5, 6), (True, 2)):
            self.refuses("InvalidRow", None, bumped, value)
        table = ((1, 2), (3,))
        for value in (*WRONG, ((1,),), ((2, 1),), ((1, 2),), ((1, 2), (3, 4)), ((True, 2), (3,)), ((1, 2, 3, 4, 5, 6),)):
            self.refuses("InvalidRow", None, row_of_tables, value, table)
            self.refuses("InvalidRow", None, row_of_tables, table, value)
        self.refuses("InvalidOperation", None, row_of_tables, table, ((1,), (2,), (3,)))
        self.refuses("InvalidOperation", None, row_of_tables, ((1, 2, 3, 4), (5,)), ((1, 2, 3), (4, 5)))
        self.refuses("InvalidOperation", None, row_of_tables, ((1, 2, 3), (4,), (5,)), ((1, 2, 3), (4, 5)))
        self.refuses("InvalidRow", None, row_of_tables, ((1, 2, 3),), ((1, 2, 4),))

    def test_not_true_ones(self):
        rows = all_rows(4)
        self.assertTrue(any(all(a <= b for a, b in zip(one, other)) != is_under(System.rows(4), word_of(one), word_of(other))
                            for one in rows for other in rows))
        self.assertTrue(any((pattern_places(row, (2, 3, 1)) is None) != (pattern_places(undone(row), (2, 3, 1)) is None)
                            for row in rows))


if __name__ == "__main__":
    unittest.main()
