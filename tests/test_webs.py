import itertools
import random
import unittest

from tests.reference import BIG, FIVE, FOUR, RING, SMALL, SQUARE, TWENTY, Model
from tests.support import WRONG, Case, error_of
from underwords.base.golds import Gold
from underwords.base.polys import Poly
from underwords.groups.mirrors import root_of
from underwords.groups.systems import System
from underwords.groups.words import length, members, normal, of_length
from underwords.ones.polys import p_row
from underwords.sheaf import webs as module
from underwords.sheaf.stalks import mirror_numbers, plane_number
from underwords.sheaf.webs import is_section, led_row, makers, section_number, web_ties
from underwords.under.under import is_under, members_under

TWO, SIGNED = System.ring(2), System.signed(3)
SYSTEMS = SMALL + BIG
# A prime, and a number s with s s = s + 1 modulo it: numbers of spaces are found with residues.
PRIME = 1000000009
GOLDEN = 691504013


def some(system, chance, most):
    most = min(most, 4) if system.letters == 4 else most
    return [chance.choice(of_length(system, size) or [()]) for size in range(most + 1)]


def products(degree, unknowns):
    return [told for told in itertools.product(range(degree + 1), repeat=unknowns) if sum(told) == degree]


def rank_of(rows):
    """The rank of rows of residues, told as dicts without zeros."""
    kept = {}
    for row in rows:
        row = dict(row)
        while row:
            place = min(row)
            if place not in kept:
                turn = pow(row[place], -1, PRIME)
                kept[place] = {at: number * turn % PRIME for at, number in row.items()}
                break
            factor = row[place]
            for at, number in kept[place].items():
                row[at] = (row.get(at, 0) - factor * number) % PRIME
            row = {at: number for at, number in row.items() if number}
    return len(kept)


def plain_sections(system, word, degree):
    """The number of independent plain sections, by the equations of all ties: forms as rows of unknown residues.

    A form is a multiple of a root form exactly if it is 0 once an unknown is led to a multiple of the others.
    """
    lot = members_under(system, word)
    told = products(degree, system.letters)
    spots = {(x, term): at for at, (x, term) in enumerate(itertools.product(lot, told))}
    rows = []
    for low, high, mirror in web_ties(system, word):
        root = [(number.whole + number.part * GOLDEN) % PRIME for number in root_of(system, mirror)]
        gone = next(at for at, number in enumerate(root) if number)
        shares = [-number * pow(root[gone], -1, PRIME) % PRIME for number in root]
        equations = {}
        for term in told:
            for rest, number in without_unknown(term, gone, shares).items():
                row = equations.setdefault(rest, {})
                row[spots[low, term]] = number
                row[spots[high, term]] = -number % PRIME
        rows.extend({at: number for at, number in row.items() if number} for row in equations.values())
    return len(spots) - rank_of(rows)


def without_unknown(term, gone, shares):
    """The terms of a product of unknowns with a sum of others in the place of one of them."""
    found = {tuple(0 if at == gone else power for at, power in enumerate(term)): 1}
    for _ in range(term[gone]):
        longer = {}
        for rest, number in found.items():
            for at, share in enumerate(shares):
                if at != gone and share:
                    more = tuple(power + (place == at) for place, power in enumerate(rest))
                    longer[more] = (longer.get(more, 0) + number * share) % PRIME
        found = longer
    return found


class TiesTest(Case):
    def test_constants(self):
        self.assertEqual((module.MAX_WEB, module.MAX_SECTIONS), (7, 3))
        self.assertEqual(GOLDEN * GOLDEN % PRIME, (GOLDEN + 1) % PRIME)

    def test_ties_by_pairs_of_members(self):
        chance = random.Random(1)
        for system in SYSTEMS:
            for word in some(system, chance, 5):
                lot = members_under(system, word)
                wanted = []
                for low, high in itertools.product(lot, repeat=2):
                    mirror = normal(system, high + low[::-1])
                    if len(low) < len(high) and error_of(root_of, system, mirror)[0] is None:
                        wanted.append((low, high, mirror))
                self.assertEqual(web_ties(system, word), tuple(sorted(wanted)))

    def test_as_many_ties_as_mirrors(self):
        for word in members(TWENTY)[::9]:
            ties = web_ties(TWENTY, word)
            for x in members_under(TWENTY, word):
                self.assertEqual(len([1 for _, high, _ in ties if high == x]), len(x))
                self.assertGreaterEqual(len([1 for low, high, _ in ties if x in (low, high)]), len(word))
        ties = web_ties(FOUR, (1, 0, 2, 1))
        self.assertEqual(len([1 for low, high, _ in ties if () in (low, high)]), 5)

    def test_mirrors_of_more_than_40_letters(self):
        word = (0, 1) * 15
        ties = web_ties(TWO, word)
        self.assertEqual(len(ties), 30 + sum(2 * size for size in range(1, 30)))
        mirror = max((mirror for _, _, mirror in ties), key=len)
        self.assertEqual(len(mirror), 59)
        self.assertTrue(all(low < high for low, high in zip(ties, ties[1:])))
        for low, high, mirror in ties[::40]:
            self.assertEqual(mirror, reduced(mirror))
            self.assertEqual(reduced(mirror + low), high)
        self.assertEqual(max(len(mirror) for _, _, mirror in web_ties(TWO, (0, 1) * 20)), 79)

    def test_small_ones(self):
        self.assertEqual(web_ties(FOUR, ()), ())
        self.assertEqual(web_ties(FOUR, (2, 1, 1)), (((), (2,), (2,)),))
        self.assertEqual(web_ties(FOUR, (1, 0, 1)), web_ties(FOUR, (0, 1, 0)))


def reduced(word):
    """The word of two letters without a bond with equal neighbours taken away."""
    left = []
    for letter in word:
        if left and left[-1] == letter:
            left.pop()
        else:
            left.append(letter)
    return tuple(left)


class MakersTest(Case):
    def test_makers_against_p(self):
        chance = random.Random(2)
        for system in SYSTEMS:
            for word in some(system, chance, 6):
                told = makers(system, word)
                self.assertEqual(told, p_row(system, word))
                self.assertEqual(tuple(told), members_under(system, word))

    def test_all_short_members(self):
        for system in (FOUR, SIGNED, TWENTY, FIVE):
            words = [word for word in members(system) if len(word) <= 7]
            kinds = set()
            for word in words if system is not FIVE else words[60::3]:
                told = makers(system, word)
                self.assertEqual(told, p_row(system, word))
                kinds.update(map(str, told.values()))
            self.assertGreater(len(kinds), 1)

    def test_members_with_many_makers(self):
        system = System(4, ((0, 1, 3), (0, 2, 3), (0, 3, 3)))
        told = makers(system, (0, 1, 2, 3, 0, 1, 2))
        self.assertEqual(told, p_row(system, (0, 1, 2, 3, 0, 1, 2)))
        self.assertEqual(str(makers(system, (1, 2, 3, 0, 1, 2, 3))[()]), "1 + 2 q")
        system = System(4, ((0, 1, 5), (0, 2, 4), (0, 3, 6), (1, 2, 5), (1, 3, 0), (2, 3, 3)))
        for word in ((0, 1, 0, 1, 2, 1, 0), (3, 0, 2, 0, 3, 0, 1), (2, 1, 3, 1, 2, 1, 3), (0, 1, 2, 3, 0, 1, 2)):
            if error_of(members_under, system, word)[0] is None:
                self.assertEqual(makers(system, word), p_row(system, word))

    def test_lengths_of_7_and_8(self):
        seven, eight = (0, 1, 2, 0, 1, 2, 0), (0, 1, 2, 0, 1, 2, 0, 1)
        self.assertEqual((length(RING, seven), length(RING, eight)), (7, 8))
        self.assertEqual(makers(RING, seven), p_row(RING, seven))
        self.refuses("TooMany", 7, makers, RING, eight)
        self.refuses("TooMany", 7, section_number, RING, eight, 0)
        self.assertEqual(makers(RING, seven + (1, 1)), makers(RING, seven))
        self.refuses("TooMany", 7, makers, RING, (0, 1, 2) * 13)
        self.refuses("TooMany", 7, section_number, RING, (0, 1, 2) * 13, 3)
        self.refuses("InvalidNumber", 4, section_number, RING, eight, 4)
        self.assertEqual(makers(FOUR, ()), {(): Poly((1,))})

    def test_lots_with_too_many_members(self):
        # No member with a length of at most 7 has such a lot: the greatest one has 104 members.
        free = System(4, tuple((i, j, 0) for i, j in itertools.combinations(range(4), 2)))
        self.assertEqual(len(makers(free, (0, 1, 2, 3, 0, 1, 2))), 104)
        self.assertEqual(makers(free, (0, 1, 2, 3, 0, 1, 2)), p_row(free, (0, 1, 2, 3, 0, 1, 2)))
        for act, more in ((web_ties, ()), (is_section, (None,))):
            self.refuses("TooMany", 120, act, RING, (0, 1, 2) * 13, *more)

    def test_roots_on_a_plane(self):
        for system in SYSTEMS:
            word = (*range(system.letters), 0, *range(1, min(system.letters, 3)))
            roots = [tuple((number.whole, number.part) for number in root_of(system, mirror))
                     for mirror in {tie[2] for tie in web_ties(system, word)} if len(mirror) <= 40]
            numbers = mirror_numbers({root: True for root in roots})
            self.assertEqual(len(set(numbers.values())), len(roots))
            if len(roots) > 1:
                self.assertEqual(len({plane_number(root, 1) for root in roots}), 1)


class SectionsTest(Case):
    def test_numbers_by_equations(self):
        chance = random.Random(3)
        for system in SYSTEMS:
            for degree in range(4):
                word = chance.choice(some(system, chance, 4 if degree < 3 or system.letters < 4 else 3))
                self.assertEqual(section_number(system, word, degree), plain_sections(system, word, degree), (system.bonds, word))
        for degree in range(3):
            self.assertEqual(section_number(FOUR, (1, 0, 2, 1), degree), plain_sections(FOUR, (1, 0, 2, 1), degree))
            self.assertEqual(section_number(TWENTY, (0, 1, 0, 1, 0), degree), plain_sections(TWENTY, (0, 1, 0, 1, 0), degree))

    def test_numbers_by_lengths(self):
        for system in SYSTEMS:
            for word in of_length(system, 3)[:4]:
                for degree in range(4):
                    wanted = sum(len(products(degree - len(x), system.letters)) for x in members_under(system, word) if len(x) <= degree)
                    self.assertEqual(section_number(system, word, degree), wanted)
        self.assertEqual([section_number(FOUR, (), degree) for degree in range(4)], [1, 3, 6, 10])
        self.assertEqual([section_number(System(1), (0,), degree) for degree in range(4)], [1, 2, 2, 2])

    def test_rows_led_by_words(self):
        chance = random.Random(4)
        for system in SYSTEMS:
            model = Model(system)
            for _ in range(6):
                word = tuple(chance.randrange(system.letters) for _ in range(chance.randrange(6)))
                row = tuple(Gold(chance.randint(-9, 9), chance.randint(-9, 9)) for _ in range(system.letters))
                told = model.leads(word, tuple((number.whole, number.part) for number in row))
                self.assertEqual(led_row(system, word, row), tuple(Gold(*number) for number in told))
                self.assertIsInstance(led_row(system, word, row), tuple)

    def section(self, system, word, row):
        return {x: led_row(system, x, row) for x in members_under(system, word)}

    def test_sections(self):
        chance = random.Random(5)
        for system in SYSTEMS:
            for word in some(system, chance, 5)[1:]:
                row, other = [tuple(Gold(chance.randint(-3, 3), chance.randint(-3, 3)) for _ in range(system.letters)) for _ in range(2)]
                told = self.section(system, word, row)
                self.assertIs(is_section(system, word, told), True)
                turned = dict(sorted(told.items(), reverse=True))
                self.assertIs(is_section(system, word, turned), True)
                # The same form everywhere is a section, too, and sums of sections are.
                added = {x: tuple(one + two for one, two in zip(told[x], other)) for x in told}
                self.assertIs(is_section(system, word, {x: other for x in told}), True)
                self.assertIs(is_section(system, word, added), True)
                for x in list(told)[::3]:
                    near = dict(added)
                    near[x] = tuple(number + Gold(1, at) for at, number in enumerate(near[x]))
                    self.assertIs(is_section(system, word, near), self.is_plain(system, word, near))

    def is_plain(self, system, word, value):
        for low, high, mirror in web_ties(system, word):
            root = root_of(system, mirror)
            less = [one - two for one, two in zip(value[low], value[high])]
            if any(less[i] * root[j] != less[j] * root[i] for i, j in itertools.combinations(range(len(root)), 2)):
                return False
        return True

    def test_a_section_that_is_0_at_the_first_member(self):
        zero, root = (Gold(0), Gold(0), Gold(0)), root_of(FOUR, (0,))
        self.assertIs(is_section(FOUR, (0,), {(): zero, (0,): root}), True)
        half = (Gold(5, -2), Gold(0), Gold(0))
        self.assertIs(is_section(FOUR, (0,), {(): zero, (0,): half}), True)
        self.assertIs(is_section(FOUR, (1,), {(): zero, (1,): half}), False)
        self.assertIs(is_section(FOUR, (), {(): half}), True)

    def test_long_numbers(self):
        big = Gold(10 ** 59) * Gold(10 ** 59, 10 ** 59)
        row = (big, Gold(0, 3), big)
        told = self.section(FOUR, (0, 1, 0), row)
        self.assertIs(is_section(FOUR, (0, 1, 0), told), True)
        told[(0,)] = (told[(0,)][0] + Gold(1), *told[(0,)][1:])
        self.assertIs(is_section(FOUR, (0, 1, 0), told), False)

    def test_values_near_to_sections(self):
        row = (Gold(1), Gold(0), Gold(2))
        good = {(): row, (0,): (Gold(-1), Gold(0), Gold(2))}
        self.assertIs(is_section(FOUR, (0,), good), True)
        self.assertIs(is_section(FOUR, (0, 1, 1), good), True)
        for value in (*WRONG, {**good, (1,): row}, {(): row}, {**good, (): row[:2]}, {**good, (): list(row)}, {(): row, (False,): good[(0,)]},
                      {**good, (): (1, 0, 2)}, {**good, (): (*row, Gold(0))}, {(): row, (0, 1, 1): good[(0,)]}, tuple(good.items()),
                      list(good.items()), {(): row, (1,): row}, {(): row, 0: row}, {(): row, "0": row}, {**good, (0,): None},
                      {(): row, None: row}, {(): good, (0,): good}, {(): row, (0, 0, 0): good[(0,)]}):
            self.assertIs(is_section(FOUR, (0,), value), False, value)

    def test_errors(self):
        row = (Gold(1), Gold(0), Gold(2))
        for value in WRONG:
            for act, more in ((web_ties, ()), (makers, ()), (section_number, (value,)), (led_row, (value,)), (is_section, (value,))):
                self.refuses("InvalidSystem", None, act, value, value, *more)
                if value != ():
                    self.refuses("InvalidWord", None, act, FOUR, value, *more)
            self.refuses("InvalidNumber", value, section_number, FOUR, (0,), value)
            self.refuses("InvalidOperation", None, led_row, FOUR, (0,), value)
        for value in (row[:2], list(row), (1, 0, 2), (*row, Gold(0)), (Gold(1), 0, Gold(2)), (Gold(1), None, Gold(2))):
            self.refuses("InvalidOperation", None, led_row, FOUR, (0,), value)
        for value in (-1, 4, True, 10 ** 70):
            self.refuses("InvalidNumber", value, section_number, FOUR, (0,), value)
        self.refuses("InvalidWord", None, is_section, RING, (3,), None)
        self.assertTrue(is_under(SQUARE, (0,), (0, 1)) and isinstance(section_number(FIVE, (0,), 1), int))


if __name__ == "__main__":
    unittest.main()
