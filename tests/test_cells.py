import itertools
import random
import unittest

from tests.reference import FIVE, FOUR, RING, SQUARE, TWENTY
from tests.support import WRONG, Case
from underwords.algebra.elements import Element
from underwords.base.polys import Poly
from underwords.cells import cells as module
from underwords.cells.cells import c_product, cell_table, greatest_power, left_cells, mu_ties, turned_poly
from underwords.groups.systems import System
from underwords.groups.words import inverse, left_letters, members, normal, product, right_letters
from underwords.ones.polys import c_element, mu, p_poly, p_row
from underwords.paths.orders import longest_member
from underwords.rows.rows import row_of
from underwords.rows.tables import bumped
from underwords.under.under import is_under

ONE, ZERO, TWICE = Poly((1,)), Poly(()), Poly((1, 0, 1), -1)
THREE, SIGNED = System.rows(3), System.signed(3)
PAIRS = System(4, ((0, 1, 5), (2, 3, 6)))
POLYGONS = [System.polygon(bond) for bond in (2, 3, 4, 5, 6)]
LITTLE = [System(1), System(3), THREE, FOUR, SQUARE, *POLYGONS, System(3, ((0, 1, 4),))]
LARGE = [System(4, ((0, 1, 5), (1, 2, 3), (2, 3, 3))), System.polygon(0), RING, System(4, ((0, 1, 3), (1, 2, 4), (2, 3, 3)))]


def in_q(poly):
    """A poly in v with even exponents alone, in q."""
    assert all(poly.at(at) == 0 for at in range(poly.lowest, poly.lowest + len(poly)) if at % 2)
    return Poly(tuple(poly.at(at) for at in range(2 * (poly.lowest // 2), poly.lowest + len(poly), 2)), poly.lowest // 2)


def put_together(system, one, other, parts):
    """The sum of v ** (l(x) + l(y) - l(z)) h(z) C_z, which C_x C_y is."""
    total = Element(system, {})
    for low, poly in parts.items():
        total = total + c_element(system, low).times(in_q(poly.moved(len(one) + len(other) - len(low))))
    return total


def mus_of(system, high):
    """The dict from the members under one to the integer mu of both, without zeros."""
    row = p_row(system, high)
    told = {low: row[low].at((len(high) - len(low) - 1) // 2) for low in row if (len(high) - len(low)) % 2}
    return {low: number for low, number in told.items() if number}


def is_stood_in(system, letter, high, low):
    """Whether D_low stands in D_s D_high [15.2]."""
    if letter in left_letters(system, high):
        return low == high
    return low == normal(system, (letter,) + high) or (letter in left_letters(system, low) and mu(system, low, high) != 0)


def times(one, other):
    return [[sum((one[i][k] * other[k][j] for k in range(len(one))), ZERO) for j in range(len(one))] for i in range(len(one))]


def as_t(table):
    """The matrix of T_s = v D_s - 1."""
    return [[poly.moved(1) - (ONE if i == j else ZERO) for j, poly in enumerate(row)] for i, row in enumerate(table)]


class ProductsTest(Case):
    def test_constants(self):
        self.assertEqual((module.MAX_MEMBERS, module.MAX_TRIED), (120, 24))

    def test_products_in_small_systems_put_together(self):
        chance = random.Random(1)
        for system in LITTLE + [SIGNED, FIVE, PAIRS]:
            pairs = list(itertools.product(members(system), repeat=2))
            for one, other in pairs if len(pairs) <= 40 else chance.sample(pairs, 40 if len(pairs) < 2000 else 8):
                told = c_product(system, one, other)
                self.assertEqual(list(told), sorted(told, key=lambda word: (len(word), word)))
                for poly in told.values():
                    self.assertTrue(poly and poly.turned() == poly and min(poly.coefficients) >= 0)
                self.assertEqual(put_together(system, one, other, told), c_element(system, one) * c_element(system, other))

    def test_products_of_three_members_do_not_hang_on_brackets(self):
        chance = random.Random(2)

        def times_sum(system, sum_of_members, other, is_turned):
            total = {}
            for word, poly in sum_of_members.items():
                for low, more in (c_product(system, other, word) if is_turned else c_product(system, word, other)).items():
                    total[low] = total.get(low, ZERO) + poly * more
            return total

        for system in (THREE, SQUARE, FOUR, System.polygon(5)):
            for one, two, three in [[chance.choice(members(system)) for _ in range(3)] for _ in range(10)]:
                first = times_sum(system, c_product(system, one, two), three, False)
                self.assertEqual(first, times_sum(system, c_product(system, two, three), one, True))

    def test_letters(self):
        for system in (FOUR, SQUARE, TWENTY):
            for high in members(system)[::3]:
                mus = mus_of(system, high)
                for letter in range(system.letters):
                    told = c_product(system, (letter,), high)
                    if letter in left_letters(system, high):
                        self.assertEqual(told, {high: TWICE})
                    else:
                        wanted = {low: Poly((mus[low],)) for low in mus if letter in left_letters(system, low)}
                        wanted[normal(system, (letter,) + high)] = ONE
                        self.assertEqual(told, wanted)

    def test_edges(self):
        for system in LITTLE:
            longest = longest_member(system)
            for word in members(system)[::4]:
                self.assertEqual(c_product(system, (), word), {word: ONE})
                self.assertEqual(c_product(system, word, ()), {word: ONE})
                self.assertEqual(list(c_product(system, word, longest)), [longest])
        self.assertEqual(c_product(FOUR, (0, 0, 2, 2, 1), (0, 1, 2, 2)), c_product(FOUR, (1,), (0, 1)))

    def test_large_systems(self):
        for system in (FIVE, TWENTY, PAIRS):
            longest = longest_member(system)
            told = c_product(system, longest, longest)
            self.assertEqual((list(told), told[longest].degree), ([longest], len(longest)))

    def test_products_the_other_way_round(self):
        one, other = (0, 1), (0, 2)
        self.assertNotEqual(c_product(FOUR, one, other), c_product(FOUR, other, one))
        for one, other in itertools.product(members(FOUR)[::5], repeat=2):
            turned = c_product(FOUR, inverse(FOUR, other), inverse(FOUR, one))
            self.assertEqual({inverse(FOUR, low): poly for low, poly in turned.items()}, c_product(FOUR, one, other))


class CellsTest(Case):
    def test_ties(self):
        for system in LITTLE:
            told = members(system)
            spots = {word: at for at, word in enumerate(told)}
            wanted = [(low, high, mu(system, low, high)) for low in told for high in told
                      if len(low) < len(high) and mu(system, low, high)]
            self.assertEqual(mu_ties(system), tuple(wanted))
            self.assertEqual([(spots[low], spots[high]) for low, high, _ in wanted],
                             sorted((spots[low], spots[high]) for low, high, _ in wanted))
        self.assertEqual(len(mu_ties(System(1))), 1)
        for low, high, number in mu_ties(TWENTY)[::40]:
            self.assertEqual(mu(TWENTY, low, high), number)

    def test_left_cells_of_small_systems(self):
        for system in LITTLE:
            told = members(system)
            behind = {high: {high} for high in told}
            steps = {high: {low for low in told for letter in range(system.letters) if is_stood_in(system, letter, high, low)}
                     for high in told}
            for _ in told:
                for high in told:
                    for low in list(behind[high]):
                        behind[high] |= steps[low]
            wanted = []
            for word in told:
                cell = tuple(other for other in told if other in behind[word] and word in behind[other])
                if cell not in wanted:
                    wanted.append(cell)
            self.assertEqual(left_cells(system), tuple(wanted))
            for cell in wanted:
                self.assertEqual(len({right_letters(system, word) for word in cell}), 1)

    def test_left_cells_of_rows_and_tables(self):
        for places in range(2, 6):
            system = System.rows(places)
            cells = {}
            for word in members(system):
                cells.setdefault(bumped(row_of(word, places))[1], []).append(word)
            self.assertEqual(left_cells(system), tuple(tuple(cell) for cell in cells.values()))
            self.assertEqual(len(cells), sum(inverse(system, word) == word for word in members(system)))

    def test_left_cells_of_large_systems(self):
        for system in (TWENTY, SIGNED, PAIRS):
            told = left_cells(system)
            self.assertEqual(sorted(word for cell in told for word in cell), sorted(members(system)))
            for cell in told:
                self.assertEqual(len({right_letters(system, word) for word in cell}), 1)
                self.assertEqual(list(cell), sorted(cell, key=lambda word: (len(word), word)))
            self.assertEqual([cell[0] for cell in told], sorted([cell[0] for cell in told], key=lambda word: (len(word), word)))
        self.assertEqual(len(left_cells(TWENTY)), 22)
        self.assertTrue(any(sum(inverse(SQUARE, word) == word for word in cell) > 1 for cell in left_cells(SQUARE)))

    def test_tables_by_ties(self):
        for system in (FOUR, SQUARE, SIGNED, System.polygon(6)):
            mus = {high: mus_of(system, high) for high in members(system)}
            for cell in left_cells(system):
                for letter in range(system.letters):
                    table = cell_table(system, cell, letter)
                    for row, x in zip(table, cell):
                        for poly, y in zip(row, cell):
                            is_left_of_y = letter in left_letters(system, y)
                            if x == y:
                                self.assertEqual(poly, TWICE if is_left_of_y else ZERO)
                            else:
                                stands = letter in left_letters(system, x) and not is_left_of_y
                                self.assertEqual(poly, Poly((mus[y].get(x, 0) + mus[x].get(y, 0) if stands else 0,)))
                    for y in cell[::5]:
                        told = c_product(system, (letter,), y)
                        self.assertEqual([row[cell.index(y)] for row in table], [told.get(x, ZERO) for x in cell])

    def test_tables_keep_the_rules_of_the_letters(self):
        told = [FOUR, SIGNED, TWENTY, *POLYGONS, System(3, ((0, 1, 6),))]
        bonds = set()
        for system in told:
            for cell in left_cells(system)[::1 if len(members(system)) < 100 else 6]:
                tables = [cell_table(system, cell, letter) for letter in range(system.letters)]
                for table in tables:
                    self.assertEqual(times(table, table), [[TWICE * poly for poly in row] for row in table])
                for i, j in itertools.combinations(range(system.letters), 2):
                    bonds.add(system.bond_of(i, j))
                    one, other = as_t(tables[i]), as_t(tables[j])
                    first, second = one, other
                    for step in range(1, system.bond_of(i, j)):
                        first = times(first, other if step % 2 else one)
                        second = times(second, one if step % 2 else other)
                    self.assertEqual(first, second)
        self.assertEqual(bonds, {2, 3, 4, 5, 6})

    def test_rules_as_they_are_told(self):
        for cell in left_cells(FOUR):
            b, e, f = [cell_table(FOUR, cell, letter) for letter in range(3)]
            self.assertEqual(times(b, f), times(f, b))
            first, second = times(times(b, e), b), times(times(e, b), e)
            size = range(len(cell))
            self.assertEqual([[first[i][j] - b[i][j] for j in size] for i in size], [[second[i][j] - e[i][j] for j in size] for i in size])

    def test_values_that_are_no_cells(self):
        cell = ((0,), (1, 0))
        for value in (*[told for told in WRONG if told != ((),)], (), (cell,), cell[::-1], list(cell), [(0,), (1, 0)], ((0,),), ((1,), (1, 0)), ((False,), (1, 0)), ((0,), (1, False)),
                      ((0,), (1, 0), ()), (cell, cell), ((0,), (1, 0), (0,)), ((0, 1, 1), (1, 0)), ((0,), (1, 0), None), left_cells(THREE)):
            self.refuses("InvalidOperation", None, cell_table, THREE, value, 0)
            self.refuses("InvalidNumber", 2, cell_table, THREE, value, 2)
            self.refuses("TooMany", 120, cell_table, RING, value, 2)
        self.assertEqual(cell_table(THREE, ((),), 1), ((ZERO,),))
        self.assertEqual(cell_table(THREE, ((0, 1, 0),), 1), ((TWICE,),))


class PowersTest(Case):
    def test_greatest_powers(self):
        for system in LITTLE:
            if len(members(system)) <= 24:
                told = members(system)
                tried = {word: -1 for word in told}
                for one, other in itertools.product(told, repeat=2):
                    for low, poly in c_product(system, one, other).items():
                        tried[low] = max(tried[low], poly.degree)
                powers = {word: greatest_power(system, word) for word in told}
                self.assertEqual(powers, tried)
                self.assertEqual([word for word in told if powers[word] == 0], [()])
                self.assertEqual(powers[told[-1]], len(told[-1]))
                for word in told:
                    self.assertEqual(powers[word], powers[inverse(system, word)])
                for cell in left_cells(system):
                    self.assertEqual(len({powers[word] for word in cell}), 1)
                for low, high in itertools.product(told, repeat=2):
                    if any(is_stood_in(system, letter, high, low) for letter in range(system.letters)):
                        self.assertTrue(powers[low] >= powers[high])
                        self.assertTrue(system != THREE or low == high or powers[low] >= powers[high])

    def test_following_members_may_be_shorter(self):
        self.assertTrue(is_stood_in(THREE, 1, (0, 1), (1,)))

    def test_turned_polys(self):
        for system in (THREE, SQUARE, FOUR, System(3)):
            longest = longest_member(system)
            for one, other in itertools.product(members(system), repeat=2):
                wanted = p_poly(system, product(system, longest, other), product(system, longest, one))
                self.assertEqual(turned_poly(system, one, other), wanted if is_under(system, one, other) else ZERO)

    def test_turned_sums(self):
        for system, pairs in ((THREE, None), (SQUARE, None), (FOUR, None), (FIVE, 12), (TWENTY, 8), (SIGNED, 12)):
            told = list(itertools.product(members(system), repeat=2))
            told = [(low, high) for low, high in told if is_under(system, low, high)]
            for low, high in told[::3] if pairs is None else random.Random(1).sample(told, pairs):
                total = ZERO
                for x in members(system):
                    if len(low) <= len(x) <= len(high) and is_under(system, low, x) and is_under(system, x, high):
                        part = p_poly(system, low, x) * turned_poly(system, x, high)
                        total = total - part if (len(x) - len(low)) % 2 else total + part
                self.assertEqual(total, ONE if low == high else ZERO)

    def test_twenty_four_members_and_more(self):
        self.assertEqual(greatest_power(FOUR, (0, 2)), 2)
        for system in (SIGNED, TWENTY, FIVE, PAIRS):
            self.refuses("TooMany", 24, greatest_power, system, (0,))
            self.refuses("InvalidWord", None, greatest_power, system, (4,))
        self.assertEqual(greatest_power(System(4), (0, 1, 2, 3)), 4)
        for system in LARGE:
            self.refuses("TooMany", 120, greatest_power, system, (0,))
            self.refuses("InvalidWord", None, greatest_power, system, (5,))
            self.refuses("TooMany", 120, c_product, system, (), (0,))
            self.refuses("InvalidWord", None, c_product, system, (), (5,))
            self.refuses("TooMany", 120, mu_ties, system)
            self.refuses("TooMany", 120, left_cells, system)
            self.refuses("TooMany", 120, turned_poly, system, (), ())
            self.refuses("TooMany", 120, turned_poly, system, (0,), ())
            self.refuses("InvalidWord", None, turned_poly, system, (), None)
            self.refuses("InvalidNumber", True, cell_table, system, ((),), True)
            self.refuses("TooMany", 120, cell_table, system, ((),), 0)


if __name__ == "__main__":
    unittest.main()
