import itertools
import random
import unittest

from tests.support import WRONG, Case, error_of
from underwords.ratio import flags as module
from underwords.ratio.flags import all_flags, far_count, far_flag, first_flag, flag_count, is_flag, position
from underwords.ratio.rs import r_poly
from underwords.groups.systems import System
from underwords.rows.rows import word_of


def spanned(prime, size, rows):
    """The set of all sums of multiples of rows."""
    return {tuple(sum(n * row[at] for n, row in zip(shares, rows)) % prime for at in range(size))
            for shares in itertools.product(range(prime), repeat=len(rows))}


def is_one(prime, rows):
    """Whether a tuple of rows is a flag [7.5]."""
    for at, row in enumerate(rows):
        places = [place for place, entry in enumerate(row) if entry]
        if not places or row[places[0]] != 1 or any(later[places[0]] for later in rows[at + 1:]):
            return False
    return True


def told_position(prime, one, other):
    """The position by the numbers of rows that spaces have in common."""
    size = len(one)
    ours = [spanned(prime, size, one[:i]) for i in range(size + 1)]
    theirs = [spanned(prime, size, other[:j]) for j in range(size + 1)]
    return tuple(min(j for j in range(size + 1) if len(ours[i] & theirs[j]) > len(ours[i - 1] & theirs[j]))
                 for i in range(1, size + 1))


SIZES = [(2, 1), (2, 2), (2, 3), (3, 1), (3, 2), (3, 3)]


class FlagsTest(Case):
    def test_constants(self):
        self.assertEqual((module.FLAG_PRIMES, module.MOST_SIZE), ((2, 3), 4))

    def test_all_flags(self):
        for prime, size in SIZES:
            rows = list(itertools.product(range(prime), repeat=size))
            wanted = [told for told in itertools.product(rows, repeat=size) if is_one(prime, told)]
            self.assertEqual(list(all_flags(prime, size)), wanted)
            self.assertEqual(len(wanted), flag_count(prime, size))
            for told in itertools.islice(itertools.product(rows, repeat=size), 0, None, 1 + len(rows) ** size // 3000):
                self.assertIs(is_flag(prime, told), is_one(prime, told))
        for prime, many in ((2, 315), (3, 2080)):
            found = list(all_flags(prime, 4))
            self.assertEqual((len(found), flag_count(prime, 4)), (many, many))
            self.assertTrue(all(one < other for one, other in zip(found, found[1:])))
            self.assertTrue(all(is_flag(prime, told) and is_one(prime, told) for told in found))

    def test_each_row_of_spaces_is_that_of_one_flag(self):
        for prime, size in SIZES:
            spaces = [tuple(frozenset(spanned(prime, size, told[:i])) for i in range(size + 1)) for told in all_flags(prime, size)]
            self.assertEqual(len(set(spaces)), len(spaces))
            for row in spaces:
                self.assertEqual([len(space) for space in row], [prime ** i for i in range(size + 1)])
        lines = {told[0] for told in all_flags(3, 3)}
        self.assertEqual(len(lines), 13)

    def test_first_and_far(self):
        self.assertEqual(first_flag(3, 3), ((1, 0, 0), (0, 1, 0), (0, 0, 1)))
        self.assertEqual(far_flag(2, 3), ((0, 0, 1), (0, 1, 0), (1, 0, 0)))
        self.assertEqual((first_flag(2, 1), far_flag(3, 1)), (((1,),), ((1,),)))

    def test_positions(self):
        chance = random.Random(1)
        for prime, size in SIZES + [(2, 4), (3, 4)]:
            found = list(all_flags(prime, size))
            pairs = list(itertools.product(found, repeat=2))
            for one, other in chance.sample(pairs, min(len(pairs), 500 if size < 4 else 40)):
                told = position(prime, one, other)
                self.assertEqual(told, told_position(prime, one, other))
                back = position(prime, other, one)
                self.assertEqual([back[entry - 1] for entry in told], list(range(1, size + 1)))
            self.assertEqual(position(prime, found[-1], found[-1]), tuple(range(1, size + 1)))
            self.assertEqual(position(prime, far_flag(prime, size), first_flag(prime, size)), tuple(range(size, 0, -1)))

    def test_position_counts_what_is_in_common(self):
        chance = random.Random(2)
        found = list(all_flags(3, 3))
        for _ in range(60):
            one, other = chance.choice(found), chance.choice(found)
            told = position(3, one, other)
            for i, j in itertools.product(range(1, 4), repeat=2):
                common = spanned(3, 3, one[:i]) & spanned(3, 3, other[:j])
                self.assertEqual(len(common), 3 ** sum(entry <= j for entry in told[:i]))

    def test_positions_are_not_alike_in_both_directions(self):
        found = list(all_flags(2, 3))
        self.assertTrue(any(position(2, one, other) != position(2, other, one) for one in found for other in found))

    def test_counts_by_all_flags(self):
        for prime, size in SIZES:
            found = [(told_position(prime, told, first_flag(prime, size)), told_position(prime, told, far_flag(prime, size)))
                     for told in all_flags(prime, size)]
            for row in itertools.permutations(range(1, size + 1)):
                for other in itertools.permutations(range(1, size + 1)):
                    wanted = (row, tuple(size + 1 - entry for entry in other))
                    self.assertEqual(far_count(prime, row, other), found.count(wanted))

    def test_counts_by_r(self):
        for prime, size in ((2, 2), (3, 2), (2, 3), (3, 3), (2, 4), (3, 4)):
            system = System.rows(size)
            words = {row: word_of(row) for row in itertools.permutations(range(1, size + 1))}
            for row, other in itertools.product(words, repeat=2):
                self.assertEqual(far_count(prime, row, other), r_poly(system, words[other], words[row]).value_at(prime))
        self.assertEqual((far_count(2, (1,), (1,)), far_count(3, (1,), (1,))), (1, 1))

    def test_values_that_are_no_flags(self):
        for value in (*WRONG, ((0, 1), [1, 0]), [(0, 1), (1, 0)], ((0, 1),), ((0, 1, 0), (1, 0, 0)), ((0, 2), (1, 0)), ((0, 1), (0, 1)),
                      ((1, 1), (0, 1), (0, 0)), ((0, True), (1, 0)), ((1, 0), (0, False)), ((1, 0), (0, 0)), ((0, 0), (1, 0)),
                      ((1, 0), (1, 1)), ((1, 0), (0, -1)), (), tuple((0,) * i + (1,) + (0,) * (4 - i) for i in range(5)), ((0,),)):
            self.assertIs(is_flag(2, value), False, value)
        self.assertIs(is_flag(3, ((0, 1), (1, 0))), True)
        self.assertIs(is_flag(3, ((1, 2), (0, 1))), True)
        self.assertIs(is_flag(2, ((1, 2), (0, 1))), False)
        self.assertIs(is_flag(2, first_flag(2, 4)), True)

    def test_errors(self):
        one = first_flag(2, 2)
        wrong = [value for value in WRONG if value not in (2, 3)] + [1, 4, 5, 0, 2.0]
        for value in wrong[:-1]:
            for act, more in ((flag_count, (None,)), (first_flag, (None,)), (far_flag, (None,)), (is_flag, (None,)),
                              (position, (None, None)), (far_count, (None, None))):
                self.refuses("InvalidNumber", value, act, value, *more)
        for value in (*WRONG, 0, 5):
            for act in (flag_count, first_flag, far_flag):
                self.refuses("InvalidNumber", value, act, 2, value)
            told = all_flags(2, value)
            self.refuses("InvalidNumber", value, next, told)
        self.refuses("InvalidNumber", 7, next, all_flags(7, 9))
        self.refuses("InvalidNumber", True, next, all_flags(2, True))
        for value in (*WRONG, ((1, 1), (1, 0)), first_flag(3, 2)[:1]):
            self.refuses("InvalidOperation", None, position, 2, value, one)
            self.refuses("InvalidOperation", None, position, 2, one, value)
        self.refuses("InvalidOperation", None, position, 2, one, first_flag(2, 3))
        for value in (*WRONG, (), (1, 1), (0, 1), (1, 2, 3, 4, 5), (2,), (1, 2, 4), [1, 2], (1, True), ((1,),), (2, -1)):
            self.refuses("InvalidRow", None, far_count, 2, value, None)
            self.refuses("InvalidRow", None, far_count, 2, (1, 2), value)
        self.refuses("InvalidOperation", None, far_count, 2, (1, 2), (1, 2, 3))
        self.refuses("InvalidOperation", None, far_count, 3, (1,), (2, 1))

    def test_flags_are_yielded_one_by_one(self):
        told = all_flags(3, 4)
        self.assertIs(iter(told), told)
        first = next(told)
        self.assertEqual(first, far_flag(3, 4))
        self.assertEqual(len(list(told)), 2079)
        self.assertIsNone(error_of(all_flags, None, None)[0])


if __name__ == "__main__":
    unittest.main()
