import functools
import itertools
import random
import unittest

from tests.reference import FIVE, FOUR, RING, SQUARE, TWENTY
from tests.support import WRONG, Case
from underwords.algebra.elements import Element, letter_element, t_element, unit_element
from underwords.base.polys import Poly
from underwords.groups.systems import System
from underwords.groups.words import length, members, normal, product, shortest_words
from underwords.loose.diagrams import (
    all_diagrams, diagram_of, diagram_product, is_diagram, letter_diagram, loose_image, loose_of_diagram, loose_product,
)
from underwords.loose.loose import is_loose, loose_members
from underwords.ones.polys import c_element

ONE, ZERO, Q = Poly((1,)), Poly(()), Poly((0, 1))


def matchings(points):
    """All tuples of partners of so many points."""
    if not points:
        return [{}]
    first, rest = points[0], points[1:]
    return [{first: other, other: first, **told} for other in rest for told in matchings([at for at in rest if at != other])]


def crosses(places, partners):
    """Whether two curves cross: exactly one end of the one stands between both ends of the other one, once around."""
    around = list(range(places)) + list(range(2 * places - 1, places - 1, -1))
    spot = {point: at for at, point in enumerate(around)}
    pairs = [sorted((spot[at], spot[near])) for at, near in enumerate(partners) if at < near]
    return any(a < c < b < d or c < a < d < b for (a, b), (c, d) in itertools.combinations(pairs, 2))


def put_together(places, upper, lower):
    """The product by a graph whose nodes are the points of three lines."""
    near = {}
    for line, diagram in ((0, upper), (1, lower)):
        for at, other in enumerate(diagram):
            one, two = [(line + point // places, point % places) for point in (at, other)]
            near.setdefault(one, set()).add((line, two))
    def walk(start):
        seen, now = [start], [(start, None)]
        while now:
            (point, came), now = now[0], now[1:]
            for line, other in near[point]:
                if other not in seen:
                    seen.append(other)
                    now.append((other, line))
        return seen
    made, loops, inner = {}, 0, set()
    for at in range(2 * places):
        start = (0, at) if at < places else (2, at - places)
        ends = [point for point in walk(start) if point[0] != 1 and point != start]
        inner.update(point for point in walk(start) if point[0] == 1)
        made[at] = ends[0][1] + (places if ends[0][0] == 2 else 0)
    for at in range(places):
        if (1, at) not in inner:
            loops += 1
            inner.update(walk((1, at)))
    return tuple(made[at] for at in range(2 * places)), loops


def by_letters(places, word):
    made, many = tuple(range(places, 2 * places)) + tuple(range(places)), 0
    for letter in word:
        made, loops = put_together(places, made, letter_diagram(places, letter))
        many += loops
    return made, many


told_product = functools.lru_cache(maxsize=None)(loose_product)


def times(places, one, other):
    """The product of two sums of E(w)."""
    total = {}
    for low, poly in one.items():
        for high, more in other.items():
            word, told = told_product(places, low, high)
            total[word] = total.get(word, ZERO) + poly * more * told
    return {word: total[word] for word in sorted(total) if total[word]}


def plus(one, other):
    total = {word: one.get(word, ZERO) + other.get(word, ZERO) for word in sorted({**one, **other})}
    return {word: poly for word, poly in total.items() if poly}


class DiagramsTest(Case):
    def test_all_diagrams(self):
        for places in range(2, 6):
            told = [tuple(partners[at] for at in range(2 * places)) for partners in matchings(list(range(2 * places)))]
            wanted = sorted(partners for partners in told if not crosses(places, partners))
            self.assertEqual(list(all_diagrams(places)), wanted)
            for partners in told:
                self.assertIs(is_diagram(places, partners), partners in wanted)
        self.assertEqual([len(all_diagrams(places)) for places in range(2, 6)], [2, 5, 14, 42])

    def test_values_near_to_diagrams(self):
        for value in itertools.product(range(-1, 5), repeat=4):
            self.assertIs(is_diagram(2, value), value in ((1, 0, 3, 2), (2, 3, 0, 1)))
        for value in (*WRONG, [1, 0, 3, 2], (True, 0, 3, 2), (1, False, 3, 2), (1, 0, 3), (1, 0, 3, 2, 5, 4), (1, 0, 3, 2.0), (1, 0, 3, None),
                      ((1,), 0, 3, 2), "1032", (10 ** 5000, 0, 3, 2)):
            self.assertIs(is_diagram(2, value), False, value)
        self.assertIs(is_diagram(3, (1, 0, 3, 2)), False)
        for value in (*WRONG, 0, 1, 6):
            self.refuses("InvalidNumber", value, is_diagram, value, (1, 0, 3, 2))
            self.refuses("InvalidNumber", value, all_diagrams, value)

    def test_letters(self):
        for places in range(2, 6):
            for letter in range(places - 1):
                told = letter_diagram(places, letter)
                for at in range(places):
                    if at not in (letter, letter + 1):
                        self.assertEqual((told[at], told[places + at]), (places + at, at))
                for at in (letter, places + letter):
                    self.assertEqual((told[at], told[at + 1]), (at + 1, at))
            for value in (*WRONG, places - 1, -1):
                self.refuses("InvalidNumber", value, letter_diagram, places, value)
        for value in (*WRONG, 0, 1, 6):
            self.refuses("InvalidNumber", value, letter_diagram, value, None)

    def test_products_and_loops(self):
        many = set()
        for places in range(2, 6):
            told = all_diagrams(places)
            for upper in told[::1 if places < 5 else 3]:
                for lower in told:
                    made = diagram_product(places, upper, lower)
                    self.assertEqual(made, put_together(places, upper, lower))
                    self.assertIs(is_diagram(places, made[0]), True)
                    many.add(made[1])
        self.assertEqual(many, {0, 1, 2})

    def test_products_along_words(self):
        chance = random.Random(1)
        for places in range(2, 6):
            for _ in range(40):
                word = tuple(chance.randrange(places - 1) for _ in range(chance.randrange(41)))
                self.assertEqual(diagram_of(places, word), by_letters(places, word))
            self.assertEqual(diagram_of(places, ()), (tuple(range(places, 2 * places)) + tuple(range(places)), 0))
        self.assertEqual(diagram_of(2, (0,) * 40), ((1, 0, 3, 2), 39))
        self.assertNotEqual(diagram_of(3, (0, 1, 0)), diagram_of(3, (1, 0, 1)))

    def test_diagrams_and_loose_members(self):
        for places in range(2, 6):
            system = System.rows(places)
            found = {}
            for word in loose_members(system):
                diagram, loops = diagram_of(places, word)
                self.assertEqual((loops, loose_of_diagram(places, diagram)), (0, word))
                self.assertEqual({diagram_of(places, told) for told in shortest_words(system, word)}, {(diagram, 0)})
                found[diagram] = word
            self.assertEqual(sorted(found), list(all_diagrams(places)))

    def test_errors(self):
        right = (1, 0, 3, 2)
        for value in (*WRONG, 0, 1, 6):
            self.refuses("InvalidNumber", value, diagram_product, value, right, right)
            self.refuses("InvalidNumber", value, diagram_of, value, None)
            self.refuses("InvalidNumber", value, loose_of_diagram, value, None)
            self.refuses("InvalidNumber", value, loose_product, value, None, None)
        for value in (*WRONG, (2, 3, 1, 0), (3, 2, 1, 0), (1, 0, 3, 2, 5, 4), (True, 0, 3, 2), list(right)):
            self.refuses("InvalidRow", None, diagram_product, 2, value, right)
            self.refuses("InvalidRow", None, diagram_product, 2, right, value)
            self.refuses("InvalidRow", None, loose_of_diagram, 2, value)
        for value in (*[told for told in WRONG if told != ()], (1,), [0]):
            self.refuses("InvalidWord", None, diagram_of, 2, value)
            self.refuses("InvalidWord", None, loose_product, 2, value, None)
            self.refuses("InvalidWord", None, loose_product, 2, (0,), value)
        self.refuses("InvalidWord", None, loose_product, 3, (0, 1, 0), (2,))


class ImagesTest(Case):
    def test_products_of_loose_members(self):
        for places in range(2, 6):
            system = System.rows(places)
            told = loose_members(system)
            for one in told[::1 if places < 5 else 5]:
                for other in told[::1 if places < 5 else 3]:
                    low, poly = loose_product(places, one, other)
                    diagram, loops = diagram_product(places, diagram_of(places, one)[0], diagram_of(places, other)[0])
                    self.assertEqual(low, loose_of_diagram(places, diagram))
                    power = len(one) + len(other) - len(low) - loops
                    self.assertEqual((power % 2, poly), (0, Poly((1, 1)).raised(loops).moved(power // 2)))
        self.assertEqual(loose_product(4, (2, 2, 0), (0, 2, 2)), ((0,), Poly((1, 1))))
        self.assertEqual(loose_product(4, (0, 2), (0, 2)), ((0, 2), Poly((1, 2, 1))))
        self.assertEqual(loose_product(4, (), (1,)), ((1,), ONE))

    def test_products_that_are_refused(self):
        for one, other in (((0, 1, 0), ()), ((), (0, 1, 0)), ((2, 0, 1, 0), (0,)), ((0,), (1, 0, 1))):
            self.refuses("Refused", ("run",), loose_product, 4, one, other)
        self.refuses("Refused", ("run",), loose_product, 5, (0, 1, 0), (0, 1, 0))

    def test_images_of_c(self):
        for places in range(2, 6):
            system = System.rows(places)
            for word in members(system):
                self.assertEqual(loose_image(c_element(system, word)), {word: ONE} if is_loose(system, word) else {})

    def test_images_of_letters(self):
        for letter in range(3):
            self.assertEqual(loose_image(letter_element(FOUR, letter)), {(): -ONE, (letter,): ONE})
        self.assertEqual(loose_image(unit_element(FOUR)), {(): ONE})
        self.assertEqual(loose_image(Element(FOUR, {})), {})
        self.assertEqual(loose_image(Element(System.rows(2), {(0,): Poly((1, 2), -3)})), {(): Poly((-1, -2), -3), (0,): Poly((1, 2), -3)})

    def test_images_keep_sums_multiples_and_products(self):
        chance = random.Random(2)
        for places, most in ((2, 2), (3, 6), (4, 8), (5, 5)):
            system = System.rows(places)
            told = members(system)[:24]
            for _ in range(5 if places < 5 else 3):
                one, other = [Element(system, {chance.choice(told): Poly((chance.randrange(-3, 4), 1), chance.randrange(-2, 3))
                                               for _ in range(chance.randrange(1, most))}) for _ in range(2)]
                first, second = loose_image(one), loose_image(other)
                self.assertEqual(loose_image(one + other), plus(first, second))
                self.assertEqual(loose_image(one * other), times(places, first, second))
                poly = Poly((2, -1), -1)
                self.assertEqual(loose_image(one.times(poly)), {word: told * poly for word, told in first.items()})
                self.assertEqual(list(loose_image(one)), sorted(loose_image(one)))
                self.assertTrue(all(is_loose(system, word) and normal(system, word) == word for word in first))

    def test_images_of_large_elements(self):
        wide = Element(FIVE, {word: Poly((10 ** 59,) * 200, -400) for word in members(FIVE)})
        told = loose_image(wide)
        self.assertTrue(len(told) <= 42 and all(told.values()))
        self.assertEqual(loose_image(t_element(FIVE, (0, 1, 0))), times(5, loose_image(t_element(FIVE, (0, 1))), loose_image(letter_element(FIVE, 0))))

    def test_errors(self):
        for value in (*WRONG, FOUR, ONE):
            self.refuses("InvalidElement", None, loose_image, value)
        for system in (SQUARE, TWENTY, RING, System(2), System(4), System.signed(3), System.polygon(6), System(3, ((0, 1, 3), (0, 2, 3))),
                       System(3, ((0, 1, 3),))):
            self.refuses("InvalidOperation", None, loose_image, unit_element(system))
        self.assertEqual(loose_image(unit_element(System(1))), {(): ONE})
        self.assertEqual(loose_image(unit_element(System(2, ((0, 1, 3),)))), {(): ONE})

    def test_not_true_ones(self):
        self.assertTrue(any(not is_loose(FOUR, product(FOUR, one, other)) and length(FOUR, product(FOUR, one, other)) > 0
                            for one, other in itertools.product(loose_members(FOUR), repeat=2)))


if __name__ == "__main__":
    unittest.main()
