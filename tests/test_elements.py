import itertools
import random
import unittest

from tests.reference import BIG, FIVE, FOUR, RING, SMALL, SQUARE, TWENTY
from tests.support import WRONG, Case, error_of
from underwords.algebra import elements as module
from underwords.algebra.elements import Element, back_of, letter_element, product_along, t_element, unit_element
from underwords.base.polys import Poly
from underwords.groups.systems import System
from underwords.groups.words import (
    inverse, left_letters, length, members, normal, of_length, product, right_letters, shortest_words,
)
from underwords.ratio.rs import r_row
from underwords.under.under import members_under

ONE, ZERO, Q, LESS = Poly((1,)), Poly(()), Poly((0, 1)), Poly((-1, 1))
TWO = System.ring(2)
WIDE = System(4, ((0, 1, 3), (1, 2, 4), (2, 3, 3)))
SYSTEMS = SMALL + BIG


def add(total, word, poly):
    total[word] = total.get(word, ZERO) + poly


def right_times(system, entries, letter):
    """The entries of the product of an element and T of a letter, by the rules of [8.1] turned to the other side."""
    total = {}
    for word, poly in entries.items():
        near = normal(system, word + (letter,))
        if len(near) > len(word):
            add(total, near, poly)
        else:
            add(total, near, Q * poly)
            add(total, word, LESS * poly)
    return total


def times(system, one, other):
    """The entries of a product, from the right: each member of the other one letter by letter."""
    total = {}
    for word, poly in other.items():
        part = one
        for letter in word:
            part = right_times(system, part, letter)
        for low, more in part.items():
            add(total, low, poly * more)
    return {word: poly for word, poly in total.items() if poly}


def bar_of(system, entries):
    """The entries of the bar, by [8.4]."""
    total = {}
    for word, poly in entries.items():
        for low, r in r_row(system, word).items():
            sign = -1 if (len(word) - len(low)) % 2 else 1
            add(total, low, poly.turned() * r * Poly((sign,)).moved(-len(word)))
    return {word: poly for word, poly in total.items() if poly}


def some_members(system, most, many, chance):
    found = [word for size in range(min(most, 4) + 1 if system.letters == 4 else most + 1) for word in of_length(system, size)]
    return found if len(found) <= many else [(), *chance.sample(found, many)]


def some_element(system, chance, many=3, most=4):
    entries = {}
    for word in chance.sample(some_members(system, most, 12, chance), min(many, 2)):
        entries[word] = Poly(tuple(chance.randint(-3, 3) for _ in range(3)), chance.randint(-3, 2))
    return Element(system, entries)


class ElementTest(Case):
    def test_constant(self):
        self.assertEqual(module.MAX_PARTS, 120)

    def test_words_of_one_member(self):
        made = Element(FOUR, {(0, 1, 0): Q, (1, 0, 1): ONE, (2, 2): LESS, (): ONE, (0,): ONE, (0, 1, 1): -ONE, (2,): ZERO})
        self.assertEqual(made.entries, {(): Q, (0, 1, 0): Poly((1, 1))})
        self.assertEqual(list(made.entries), [(), (0, 1, 0)])
        self.assertEqual((len(made), bool(made), made.system), (2, True, FOUR))
        self.assertEqual((made.poly_of((1, 0, 1)), made.poly_of(()), made.poly_of((1,)), made.poly_of((0,))),
                         (Poly((1, 1)), Q, ZERO, ZERO))
        none = Element(FOUR, {(0,): ZERO, (1,): Q, (1, 0, 0): -Q})
        self.assertEqual((len(none), bool(none), none.entries, str(none)), (0, False, {}, "0"))
        self.assertEqual(none, Element(FOUR, {}))

    def test_keys_ascend(self):
        made = Element(FOUR, {(2,): ONE, (0, 2): ONE, (0,): ONE, (1, 2, 0): ONE, (): ONE})
        self.assertEqual(list(made.entries), [(), (0,), (0, 2), (1, 0, 2), (2,)])
        chance = random.Random(1)
        for system in SYSTEMS:
            one, other = some_element(system, chance), some_element(system, chance)
            for told in (one + other, one - other, one * other, one.undone(), one.bar(), one.times(Poly((1, 2)))):
                self.assertEqual(list(told.entries), sorted(told.entries))
                self.assertTrue(all(told.entries.values()))
                self.assertTrue(all(normal(system, word) == word for word in told.entries))

    def test_nothing_is_shared(self):
        given = {(0,): ONE}
        made = Element(FOUR, given)
        given[(1,)] = ONE
        made.entries[(2,)] = ONE
        self.assertEqual(made.entries, {(0,): ONE})

    def test_sums_and_multiples(self):
        chance = random.Random(2)
        for system in SYSTEMS:
            one, other = some_element(system, chance), some_element(system, chance)
            words = set(one.entries) | set(other.entries)
            for word in words:
                self.assertEqual((one + other).poly_of(word), one.poly_of(word) + other.poly_of(word))
                self.assertEqual((one - other).poly_of(word), one.poly_of(word) - other.poly_of(word))
                self.assertEqual(one.times(Q - ONE).poly_of(word), one.poly_of(word) * LESS)
            self.assertEqual((one + other - other, one - one, one.times(ZERO)), (one, Element(system, {}), Element(system, {})))
            self.assertLessEqual(set((one + other).entries), words)

    def test_products(self):
        chance = random.Random(3)
        for system in SYSTEMS:
            for _ in range(6):
                one, other, third = [some_element(system, chance) for _ in range(3)]
                self.assertEqual((one * other).entries, times(system, one.entries, other.entries))
                self.assertEqual((one * other) * third, one * (other * third))
                self.assertEqual(one * (other + third), one * other + one * third)
                self.assertEqual((one - other) * third, one * third - other * third)
                self.assertEqual(one.times(LESS) * other, (one * other).times(LESS))
                self.assertEqual(one * unit_element(system), one)
                self.assertEqual(unit_element(system) * one, one)
                self.assertEqual((one * other).poly_of(()), (other * one).poly_of(()))

    def test_products_of_letters_and_members(self):
        chance = random.Random(4)
        for system in SYSTEMS:
            for word in some_members(system, 5, 12, chance):
                for letter in range(system.letters):
                    told = letter_element(system, letter) * t_element(system, word)
                    near = normal(system, (letter,) + word)
                    wanted = {near: ONE} if len(near) > len(word) else {near: Q, word: LESS}
                    self.assertEqual(told.entries, wanted)
        zero = letter_element(FOUR, 0)
        self.assertEqual(zero * zero, zero.times(LESS) + unit_element(FOUR).times(Q))

    def test_products_of_members(self):
        chance = random.Random(5)
        for system in SYSTEMS:
            found = some_members(system, 4, 9, chance)
            for u, w in itertools.product(found, repeat=2):
                told = t_element(system, u) * t_element(system, w)
                both = product(system, u, w)
                self.assertEqual(told == t_element(system, both), len(both) == len(u) + len(w))
                at_one = {word: poly.value_at(1) for word, poly in told.entries.items()}
                self.assertEqual({word: many for word, many in at_one.items() if many}, {both: 1})
                self.assertEqual(told.poly_of(()), Q.raised(len(u)) if w == inverse(system, u) else ZERO)
        self.assertNotEqual(t_element(FOUR, (0, 1)) * t_element(FOUR, (1, 0)), t_element(FOUR, (1, 0)) * t_element(FOUR, (0, 1)))

    def test_products_along(self):
        chance = random.Random(6)
        for system in SYSTEMS:
            for _ in range(6):
                word = tuple(chance.randrange(system.letters) for _ in range(chance.randrange(8)))
                wanted = unit_element(system)
                for letter in word:
                    wanted = wanted * letter_element(system, letter)
                self.assertEqual(product_along(system, word), wanted)
                for shortest in shortest_words(system, word)[:4]:
                    self.assertEqual(product_along(system, shortest), t_element(system, word))
        self.assertEqual(product_along(FOUR, (0,) * 40), product_along(FOUR, (0,) * 20) * product_along(FOUR, (0,) * 20))
        self.assertEqual(product_along(TWO, (0, 1) * 20), t_element(TWO, (0, 1) * 20))
        self.assertEqual(product_along(FOUR, (0, 0)).entries, {(): Q, (0,): LESS})
        self.assertNotEqual(product_along(FOUR, (0, 0)), product_along(FOUR, ()))

    def test_backs(self):
        chance = random.Random(7)
        for system in SYSTEMS:
            for word in some_members(system, 5, 8, chance):
                back, one = back_of(system, word), t_element(system, word)
                self.assertEqual((one * back, back * one), (unit_element(system), unit_element(system)))
                self.assertEqual(t_element(system, inverse(system, word)).bar(), back)
                self.assertEqual(set(back.entries), set(members_under(system, inverse(system, word))))
        self.assertEqual(back_of(FOUR, (1, 0, 1, 0, 2, 2)), back_of(FOUR, normal(FOUR, (1, 0, 1, 0))))

    def test_bars(self):
        chance = random.Random(8)
        for system in SYSTEMS:
            for _ in range(4):
                one, other = some_element(system, chance, 2, 3), some_element(system, chance, 2, 3)
                self.assertEqual(one.bar().entries, bar_of(system, one.entries))
                self.assertEqual(one.bar().bar(), one)
                self.assertEqual((one + other).bar(), one.bar() + other.bar())
                self.assertEqual((one * other).bar(), one.bar() * other.bar())
        self.assertEqual(Element(FOUR, {}).bar(), Element(FOUR, {}))

    def test_undone_ones(self):
        chance = random.Random(9)
        for system in SYSTEMS:
            for _ in range(4):
                one, other = some_element(system, chance), some_element(system, chance)
                self.assertEqual(one.undone().entries, {inverse(system, word): poly for word, poly in one.entries.items()})
                self.assertEqual((one * other).undone(), other.undone() * one.undone())
                self.assertEqual(one.bar().undone(), one.undone().bar())
                self.assertEqual(one.undone().undone(), one)

    def test_all_members_of_large_systems(self):
        for system in (FIVE, TWENTY):
            everything = Element(system, {word: Poly((1, len(word)), -1) for word in members(system)})
            self.assertEqual(len(everything), 120)
            self.assertEqual(everything.bar().bar(), everything)
            self.assertEqual(everything.undone().undone(), everything)
            self.assertEqual(everything.bar().entries, bar_of(system, everything.entries))
            longest = members(system)[-1]
            self.assertEqual(len(back_of(system, longest)), 120)
            self.assertEqual(back_of(system, longest) * (t_element(system, longest) * everything), everything)

    def test_120_and_121_members(self):
        level = [word for size in range(11) for word in of_length(RING, size)]
        right = Element(RING, {word: ONE for word in level[:120]})
        self.assertEqual(len(right), 120)
        self.refuses("TooMany", 120, Element, RING, {word: ONE for word in level[:121]})
        self.refuses("InvalidElement", None, Element, RING, {**{word: ONE for word in level[:121]}, (3,): ONE})
        self.refuses("InvalidElement", None, Element, RING, {**{word: ONE for word in level[:121]}, (): 1})
        same = {**{word: ONE for word in level[:120]}, level[5] + (0, 0): ONE, level[130]: ZERO, (0, 0, 1, 1): ONE}
        self.assertEqual(len(Element(RING, same)), 120)
        gone = {**{word: ONE for word in level[:121]}, level[120] + (0, 0): -ONE}
        self.assertEqual(Element(RING, gone), right)
        more = t_element(RING, level[120])
        for act in (lambda: right + more, lambda: right - more, lambda: more + right, lambda: more - right):
            self.refuses("TooMany", 120, act)
        self.assertEqual(len(right - t_element(RING, level[119]) + more), 120)
        self.assertEqual(len(right + right), 120)
        self.assertEqual(len(right.undone()), 120)

    def test_products_with_too_many_members(self):
        level = [word for size in range(11) for word in of_length(RING, size)]
        right = Element(RING, {word: ONE for word in level[:120]})
        self.assertEqual(len(right * unit_element(RING)), 120)
        long = [word for size in (20, 22, 24) for word in of_length(RING, size)]
        for act, many in ((lambda: half * letter_element(RING, 0), 60), (lambda: half * letter_element(RING, 0), 61)):
            half = Element(RING, {word: Q - ONE for word in [word for word in long if 0 in right_letters(RING, word)][:many]})
            self.assertEqual(error_of(act)[0], None if many == 60 else "TooMany")
        for many in (60, 61):
            half = Element(RING, {word: ONE for word in [word for word in long if 1 in left_letters(RING, word)][:many]})
            self.assertEqual(error_of(lambda: letter_element(RING, 1) * half)[0], None if many == 60 else "TooMany")
        self.assertEqual(right * Element(RING, {}), Element(RING, {}))
        # Members that are too many on the way may still leave few of them.
        word = (0, 1, 2) * 3
        back = back_of(RING, word)
        self.assertLessEqual(len(back), 120)
        much = [word for size in range(5) for word in of_length(RING, size)]
        least = Element(RING, {word: ONE for word in much[:3]})
        self.assertEqual(back * (t_element(RING, word) * least), least)
        longest = (0, 1, 2, 3) * 5
        one = t_element(WIDE, longest)
        turned = one.undone()
        self.assertEqual((length(WIDE, longest), len(one)), (20, 1))
        self.refuses("TooMany", 120, lambda: one * turned)
        self.refuses("TooMany", 120, lambda: (one - unit_element(WIDE)) * turned)
        self.refuses("TooMany", 120, product_along, WIDE, longest + longest[::-1])

    def test_products_with_too_many_members_on_the_way_alone(self):
        long = [word for size in (20, 22, 24) for word in of_length(RING, size) if 0 in left_letters(RING, word)]
        zero, one, unit = letter_element(RING, 0), letter_element(RING, 1), unit_element(RING)
        for many in (60, 61, 100):
            upper = Element(RING, {word: Poly((1, at)) for at, word in enumerate(long[:many])})
            lower = Element(RING, {(0,) + word: Poly((1, at)) for at, word in enumerate(long[:many])})
            self.assertEqual(error_of(lambda: zero * upper)[0], None if many == 60 else "TooMany")
            self.assertEqual((zero - unit.times(LESS)) * upper, lower.times(Q))
        upper = Element(RING, {word: ONE for word in long[:60]})
        gone = upper - Element(RING, {(0,) + word: Q for word in long[:60]})
        self.assertEqual((len(gone), (zero + unit) * gone), (120, Element(RING, {})))
        self.refuses("TooMany", 120, lambda: one * (zero * gone))
        self.assertEqual((one * (zero + unit)) * gone, Element(RING, {}))
        self.assertEqual((one * zero + one) * gone, Element(RING, {}))

    def test_bars_with_too_many_members(self):
        long = (0, 1, 2) * 6
        self.assertRaises(OverflowError, members_under, RING, long)
        self.refuses("TooMany", 120, t_element(RING, long).bar)
        self.refuses("TooMany", 120, back_of, RING, long)
        self.refuses("TooMany", 120, back_of, RING, (0, 1, 2) * 13)
        self.assertEqual(error_of(t_element, RING, long)[0], None)
        self.assertEqual(product_along(RING, long), t_element(RING, long))
        level = [word for word in of_length(RING, 9) if error_of(members_under, RING, word)[0] is None]
        some = Element(RING, {word: ONE for word in level})
        many = len(set().union(*[members_under(RING, word) for word in level]))
        self.assertLessEqual(max(len(members_under(RING, word)) for word in level), 120)
        self.assertGreater(many, 120)
        self.refuses("TooMany", 120, some.bar)
        self.refuses("TooMany", 120, (some + t_element(RING, long)).bar)

    def test_lengths_up_to_40(self):
        for one, other in ((20, 20), (0, 40), (39, 1), (40, 0)):
            first = t_element(TWO, ((0, 1) * 20)[:one])
            second = t_element(TWO, ((0, 1) * 20)[one:one + other])
            self.assertEqual(first * second, t_element(TWO, (0, 1) * 20))
        for one, other in ((20, 21), (1, 40), (39, 2), (40, 40)):
            first, second = t_element(TWO, ((0, 1) * 20)[:one]), t_element(TWO, ((1, 0) * 20)[:other])
            self.refuses("TooMany", 40, lambda: first * second)
            self.refuses("TooMany", 40, lambda: (first + unit_element(TWO)) * (letter_element(TWO, 1) + second))
            self.refuses("InvalidOperation", None, lambda: first * t_element(RING, (0, 1) * 10 + (2,)))
        self.assertEqual(Element(TWO, {}) * t_element(TWO, (0, 1) * 20), Element(TWO, {}))
        word = ((0, 1) * 10)
        self.assertEqual(len(t_element(TWO, word) * t_element(TWO, word[::-1])), len(times(TWO, {word: ONE}, {word[::-1]: ONE})))

    def test_operands(self):
        one = letter_element(FOUR, 0)
        for value in (*WRONG, 0, 1, ONE, FOUR, {(0,): ONE}):
            for act in (lambda: one + value, lambda: one - value, lambda: one * value, lambda: value + one, lambda: value - one,
                        lambda: value * one):
                self.assertRaises(TypeError, act)
        other = letter_element(System(3), 0)
        for act in (lambda: one + other, lambda: one - other, lambda: one * other):
            self.refuses("InvalidOperation", None, act)
        again = letter_element(System(3, ((0, 1, 3), (1, 2, 3))), 0)
        self.assertEqual((one + again, one == again), (one.times(Poly((2,))), True))
        self.assertRaises(TypeError, iter, one)
        self.assertRaises(TypeError, list, one)

    def test_equal_ones(self):
        one = Element(FOUR, {(0,): Q, (1, 0, 1): ONE})
        self.assertTrue(one == Element(FOUR, {(0, 1, 0): ONE, (0,): Q}))
        self.assertFalse(one != Element(FOUR, {(0, 1, 0): ONE, (0,): Q}))
        for value in (*WRONG, one.entries, str(one), Element(FOUR, {(0,): Q}), Element(FOUR, {(0,): Q, (0, 1, 0): Q}),
                      Element(System(3, ((0, 1, 3), (0, 2, 3))), {(0,): Q, (0, 1, 0): ONE})):
            self.assertFalse(one == value)
            self.assertTrue(one != value)

    def test_texts(self):
        one = Element(FOUR, {(1, 0): Q - ONE, (): Q, (0, 1, 0): Poly((3, 0, -1), -1), (0,): ONE})
        self.assertEqual(str(one), "(q) T() + (1) T(0) + (3 q^-1 - q) T(0 1 0) + (-1 + q) T(1 0)")
        self.assertEqual((str(unit_element(FOUR)), str(letter_element(FOUR, 2)), str(Element(FOUR, {}))), ("(1) T()", "(1) T(2)", "0"))
        self.assertEqual(str(letter_element(FOUR, 0) * letter_element(FOUR, 0)), "(q) T() + (-1 + q) T(0)")
        self.assertEqual(str(t_element(FOUR, (2, 0, 1)).times(-Q)), "(-q) T(0 2 1)")

    def test_poly_of_and_times(self):
        one = Element(FOUR, {(0, 1, 0): Q})
        self.assertEqual((one.poly_of((1, 0, 1)), one.poly_of((2,)), one.poly_of((0, 0))), (Q, ZERO, ZERO))
        for value in WRONG:
            if value != ():
                self.refuses("InvalidWord", None, one.poly_of, value)
            self.refuses("InvalidPoly", None, one.times, value)
        self.refuses("InvalidWord", None, one.poly_of, (3,))
        self.refuses("InvalidPoly", None, one.times, one)

    def test_what_is_refused(self):
        for value in WRONG:
            self.refuses("InvalidSystem", None, Element, value, value)
            for act in (t_element, back_of, product_along, letter_element):
                self.refuses("InvalidSystem", None, act, value, value)
            self.refuses("InvalidSystem", None, unit_element, value)
            self.refuses("InvalidNumber", value, letter_element, FOUR, value)
            if value != ():
                for act in (t_element, back_of, product_along):
                    self.refuses("InvalidWord", None, act, FOUR, value)
            if value != {}:
                self.refuses("InvalidElement", None, Element, FOUR, {**value} if value == {(): ()} else value)
            if value.__hash__ and not isinstance(value, (list, dict)) and value != ():
                try:
                    told = {value: ONE}
                except TypeError:
                    continue
                self.refuses("InvalidElement", None, Element, FOUR, told)
            self.refuses("InvalidElement", None, Element, FOUR, {(): value})
            self.refuses("InvalidElement", None, Element, FOUR, {(0,): ONE, (1,): value})
        for value in ({(True,): ONE}, {(3,): ONE}, {(0,) * 41: ONE}, {0: ONE}, [((0,), ONE)], (((0,), ONE),), {(0,): 1}):
            self.refuses("InvalidElement", None, Element, FOUR, value)
        for value in (3, -1, True):
            self.refuses("InvalidNumber", value, letter_element, FOUR, value)
        self.assertEqual(len(Element(FOUR, {(0,) * 40: ONE})), 1)

    def test_not_true_ones(self):
        self.assertEqual(product(FOUR, (0, 1), (1, 0)), product(FOUR, (1, 0), (0, 1)))
        self.assertNotEqual(set(t_element(FOUR, (0, 1)).bar().entries), {(0, 1)})
        self.assertTrue(any(number < 0 for poly in (letter_element(FOUR, 0) * letter_element(FOUR, 0)).entries.values()
                            for number in poly.coefficients))
        self.assertTrue(right_letters(FOUR, (0,)) and length(FOUR, (0, 0)) == 0 and SQUARE)


if __name__ == "__main__":
    unittest.main()
