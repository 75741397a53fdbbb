import itertools
import unittest

from tests.reference import FIVE, FOUR, RING, SQUARE, TWENTY
from tests.support import WRONG, Case
from underwords.base.polys import Poly
from underwords.cosets.cosets import is_least
from underwords.endless.numbers import (
    degrees, greatest_length, is_endless, least_numbers, length_numbers, numbers_by_letters,
)
from underwords.groups.systems import BONDS, System
from underwords.groups.words import members, of_length
from underwords.paths.orders import longest_member

FREE = System(4, tuple((i, j, 0) for i, j in itertools.combinations(range(4), 2)))
# Shapes [18.5] with their degrees [18.6], as the bonds of neighbours in a row, or of a star.
ROWS = {(): (2,), (3,): (2, 3), (4,): (2, 4), (5,): (2, 5), (6,): (2, 6), (3, 3): (2, 3, 4), (3, 4): (2, 4, 6), (3, 5): (2, 6, 10),
        (3, 3, 3): (2, 3, 4, 5), (3, 3, 4): (2, 4, 6, 8), (3, 4, 3): (2, 6, 8, 12), (3, 3, 5): (2, 12, 20, 30)}


def renamed(letters, bonds, names):
    return System(letters, tuple(sorted((min(names[i], names[j]), max(names[i], names[j]), bond) for i, j, bond in bonds)))


def row_bonds(bonds, first=0):
    return tuple((first + at, first + at + 1, bond) for at, bond in enumerate(bonds))


def all_systems(letters):
    pairs = list(itertools.combinations(range(letters), 2))
    for bonds in itertools.product(BONDS, repeat=len(pairs)):
        yield System(letters, tuple((i, j, bond) for (i, j), bond in zip(pairs, bonds) if bond != 2))


def expected(system):
    """The degrees by the rules of the shapes: pieces, and the bonds along them read from both ends."""
    near = {i: {j for j in range(system.letters) if j != i and system.bond_of(i, j) != 2} for i in range(system.letters)}
    found, left = [], set(range(system.letters))
    while left:
        piece = {min(left)}
        for _ in range(4):
            piece |= {j for i in piece for j in near[i]}
        left -= piece
        told = [row for row in itertools.permutations(sorted(piece))
                if all((system.bond_of(a, b) != 2) == (abs(x - y) == 1) for (x, a), (y, b) in itertools.combinations(enumerate(row), 2))]
        if told:
            bonds = [tuple(system.bond_of(a, b) for a, b in zip(row, row[1:])) for row in told]
            shape = next((ROWS[row] for row in bonds if row in ROWS), None)
        else:
            stars = [i for i in piece if len(piece) == 4 and all(system.bond_of(i, j) == 3 for j in piece - {i})
                     and all(system.bond_of(j, k) == 2 for j, k in itertools.combinations(sorted(piece - {i}), 2))]
            shape = (2, 4, 4, 6) if stars else None
        if shape is None:
            return None
        found.extend(shape)
    return tuple(sorted(found))


def product_numbers(told, last):
    total = Poly((1,))
    for degree in told:
        total = total * Poly((1,) * degree)
    return tuple(total.at(at) for at in range(last + 1))


def by_members(system, last):
    return tuple(len(of_length(system, size)) for size in range(last + 1))


class ShapesTest(Case):
    def test_all_systems(self):
        for letters in (1, 2, 3):
            for system in all_systems(letters):
                self.check_system(system)
        for system in list(all_systems(4))[::37]:
            self.check_system(system)

    def check_system(self, system):
        wanted = expected(system)
        self.assertIs(is_endless(system), wanted is None)
        if wanted is None:
            self.refuses("Refused", ("endless",), degrees, system)
            self.refuses("Refused", ("endless",), greatest_length, system)
        else:
            self.assertEqual(degrees(system), wanted)
            self.assertEqual(greatest_length(system), sum(wanted) - len(wanted))

    def test_each_shape_with_each_names(self):
        for bonds, told in ROWS.items():
            letters = len(bonds) + 1
            for names in itertools.permutations(range(letters)):
                self.assertEqual(degrees(renamed(letters, row_bonds(bonds), names)), told)
        for names in itertools.permutations(range(4)):
            self.assertEqual(degrees(renamed(4, ((0, 1, 3), (0, 2, 3), (0, 3, 3)), names)), (2, 4, 4, 6))

    def test_systems_near_to_the_shapes(self):
        for letters, bonds in ((2, ((0, 1, 0),)), (3, row_bonds((3, 6))), (3, row_bonds((4, 4))), (3, row_bonds((3, 0))), (3, row_bonds((4, 5))),
                               (3, ((0, 1, 3), (0, 2, 3), (1, 2, 3))), (4, row_bonds((3, 3, 6))), (4, row_bonds((3, 5, 3))), (4, row_bonds((4, 3, 4))),
                               (4, row_bonds((3, 4, 4))), (4, row_bonds((5, 3, 4))), (4, ((0, 1, 3), (0, 3, 3), (1, 2, 3), (2, 3, 3))),
                               (4, ((0, 1, 3), (0, 2, 3), (0, 3, 4))), (4, ((0, 1, 3), (0, 2, 3), (1, 2, 3))), (4, ((0, 1, 3), (2, 3, 0))),
                               (4, ((0, 1, 3), (0, 2, 3), (1, 2, 3), (2, 3, 3))), (4, row_bonds((5, 3, 5))), (4, row_bonds((3, 6, 3)))):
            self.assertIs(is_endless(System(letters, bonds)), True, bonds)

    def test_several_pieces(self):
        for bonds, told in ((((0, 1, 3), (2, 3, 6)), (2, 2, 3, 6)), (((0, 3, 5),), (2, 2, 2, 5)), (((1, 2, 4), (2, 3, 3)), (2, 2, 4, 6)), ((), (2, 2, 2, 2)),
                            (((0, 2, 3), (1, 3, 3)), (2, 2, 3, 3)), (((0, 2, 3), (0, 3, 5)), (2, 2, 6, 10))):
            self.assertEqual(degrees(System(4, bonds)), told)

    def test_greatest_lengths_of_longest_members(self):
        for system in (FOUR, FIVE, SQUARE, TWENTY, System.signed(3), System(1), System(4), System(4, ((0, 1, 5), (2, 3, 6)))):
            self.assertEqual(greatest_length(system), len(longest_member(system)))
        self.assertEqual([greatest_length(System(4, row_bonds(bonds))) for bonds in ((3, 3, 3), (3, 3, 4), (3, 4, 3), (5, 3, 3))], [10, 16, 24, 60])


class NumbersTest(Case):
    def test_numbers_of_finite_systems_by_each_way(self):
        for system in [FOUR, FIVE, SQUARE, TWENTY, System.signed(3), System(1), System(4), System(2), System.polygon(6), System(3, ((0, 2, 5),))]:
            sizes = [len(word) for word in members(system)]
            for last in (0, 1, 5, 20):
                wanted = tuple(sizes.count(size) for size in range(last + 1))
                self.assertEqual(length_numbers(system, last), wanted)
                self.assertEqual(numbers_by_letters(system, last), wanted)
                self.assertEqual(product_numbers(degrees(system), last), wanted)
        for bonds in ((3, 4, 3), (3, 3, 4), (3, 3, 5)):
            system = System(4, row_bonds(bonds))
            self.assertEqual(numbers_by_letters(system, 40), product_numbers(degrees(system), 40))
            self.assertEqual(length_numbers(system, 9), numbers_by_letters(system, 9))
        self.assertEqual(sum(numbers_by_letters(System(4, row_bonds((3, 4, 3))), 40)), 1152)

    def test_numbers_of_endless_systems(self):
        for system, last in ((RING, 12), (System.ring(2), 12), (FREE, 4), (System(3, ((0, 1, 6), (1, 2, 4))), 7), (System(4, ((0, 1, 0), (2, 3, 4))), 6),
                             (System(3, ((0, 1, 3), (0, 2, 4), (1, 2, 5))), 6), (System(4, row_bonds((3, 3, 6))), 6), (System(4, ((0, 1, 0),)), 7)):
            self.assertEqual(length_numbers(system, last), by_members(system, last))
            self.assertEqual(numbers_by_letters(system, last), by_members(system, last))
        self.assertEqual(numbers_by_letters(FREE, 40), (1, *[4 * 3 ** at for at in range(40)]))
        self.assertEqual(numbers_by_letters(RING, 40), (1, *[3 * at for at in range(1, 41)]))
        self.assertEqual(numbers_by_letters(System.ring(2), 40), (1, *[2] * 40))

    def test_both_ways_for_many_systems(self):
        for letters, last in ((1, 5), (2, 9), (3, 7)):
            for system in list(all_systems(letters))[::1 if letters < 3 else 7]:
                self.assertEqual(length_numbers(system, last), numbers_by_letters(system, last))
        for system in list(all_systems(4))[::997]:
            self.assertEqual(length_numbers(system, 4), numbers_by_letters(system, 4))

    def test_members_without_right_letters(self):
        for system, last in ((FOUR, 6), (SQUARE, 5), (RING, 6), (System.signed(3), 9), (System.ring(2), 9), (System(3, ((0, 1, 0),)), 6),
                             (System(4, ((0, 1, 5), (2, 3, 3))), 5), (FREE, 3)):
            told = [of_length(system, size) for size in range(last + 1)]
            for many in range(system.letters + 1):
                for letters in itertools.combinations(range(system.letters), many):
                    wanted = tuple(sum(is_least(system, word, letters) for word in level) for level in told)
                    self.assertEqual(least_numbers(system, letters, last), wanted)
        self.assertEqual(least_numbers(RING, (), 9), numbers_by_letters(RING, 9))
        self.assertEqual(least_numbers(RING, (0, 1, 2), 9), (1,) + (0,) * 9)
        self.assertEqual(least_numbers(FREE, (0,), 40), tuple(3 ** at for at in range(41)))

    def test_2000_members_and_more(self):
        self.assertEqual(sum(length_numbers(FREE, 6)), 1457)
        self.refuses("TooMany", 2000, length_numbers, FREE, 7)
        self.refuses("TooMany", 2000, length_numbers, FREE, 40)
        self.refuses("InvalidNumber", 41, length_numbers, FREE, 41)
        self.assertEqual(numbers_by_letters(FREE, 7)[-1], 2916)
        even = System(4, ((0, 1, 0), (0, 2, 0), (1, 2, 3), (1, 3, 4), (2, 3, 4)))
        self.assertEqual(sum(length_numbers(even, 7)), 2000)
        self.refuses("TooMany", 2000, length_numbers, even, 8)
        self.assertEqual(sum(length_numbers(RING, 36)), 1999)
        self.refuses("TooMany", 2000, length_numbers, RING, 37)
        whole = System(4, row_bonds((3, 4, 3)))
        self.assertEqual((sum(length_numbers(whole, 40)), length_numbers(whole, 24)[-1]), (1152, 1))

    def test_errors(self):
        for value in (*[told for told in WRONG if told is not True], -1, 41, True, 10 ** 30):
            for act in (length_numbers, numbers_by_letters):
                self.refuses("InvalidNumber", value, act, RING, value)
                self.refuses("InvalidSystem", None, act, None, value)
            self.refuses("InvalidNumber", value, least_numbers, RING, (0, 1), value)
        for value in (*[told for told in WRONG if told != ()], (3,), (1, 0), (0, 0), [0], (True,), 0):
            self.refuses("InvalidOperation", None, least_numbers, RING, value, 5)
            self.refuses("InvalidOperation", None, least_numbers, RING, value, None)
        for value in WRONG:
            for act in (is_endless, degrees, greatest_length):
                self.refuses("InvalidSystem", None, act, value)
            self.refuses("InvalidSystem", None, least_numbers, value, (1, 0), 41)

    def test_not_true_ones(self):
        one, other = System(4, row_bonds((3, 3))), System(4, ((0, 1, 3), (2, 3, 4)))
        self.assertEqual(length_numbers(one, 12), length_numbers(other, 12))
        self.assertNotEqual(one, other)
        told = numbers_by_letters(System.ring(2), 9)
        self.assertFalse(all(low < high for low, high in zip(told, told[1:])))


if __name__ == "__main__":
    unittest.main()
