import random
import unittest

from tests.support import WRONG, Case, error_of
from underwords.base import polys
from underwords.base.golds import Gold
from underwords.base.polys import Poly
from underwords.groups.systems import System

BIGGEST = 10 ** 60 - 1


def told(poly):
    """The dict from the exponents to the integers other than 0."""
    return {poly.lowest + at: number for at, number in enumerate(poly.coefficients) if number}


def some_poly(chance, size=6, most=9, low=-8):
    return Poly(tuple(chance.randint(-most, most) for _ in range(chance.randint(0, size))), chance.randint(low, 8))


def product_of(one, other):
    made = {}
    for at, number in told(one).items():
        for spot, worth in told(other).items():
            made[at + spot] = made.get(at + spot, 0) + number * worth
    return {at: number for at, number in made.items() if number}


class PolyTest(Case):
    def test_constants(self):
        self.assertEqual((polys.MAX_COEFFICIENTS, polys.MAX_EXPONENT, polys.MAX_RAISED), (200, 400, 40))

    def test_parts(self):
        for given, lowest, kept, low, degree in (
                ((), 0, (), 0, None), ((), 7, (), 0, None), ((0, 0), -3, (), 0, None), ((1,), 0, (1,), 0, 0),
                ((0, 3, 0, -1, 0), -2, (3, 0, -1), -1, 1), ((5,), -400, (5,), -400, -400), ((0, 5), 400, (5,), 401, 401),
                ((0,) * 199 + (1,), 400, (1,), 599, 599), ((1,) * 200, -400, (1,) * 200, -400, -201)):
            poly = Poly(given, lowest)
            self.assertEqual((poly.coefficients, poly.lowest, poly.degree), (kept, low, degree))
            self.assertEqual((len(poly), bool(poly)), (len(kept), kept != ()))
        self.assertEqual(Poly(coefficients=(1, 2), lowest=3), Poly((0, 1, 2), 2))

    def test_wrong_arguments(self):
        for value in [*WRONG, (1, True), (1, None), (1, "2"), [1, 2], (1.5,) * 0 + ((1,),), (1,) * 201, (0,) * 201, (10 ** 60,)]:
            if value not in ((-1,), (99,), (0,) * 41):
                self.refuses("InvalidPoly", None, Poly, value)
                self.refuses("InvalidPoly", None, Poly, value, "lowest")
        for value in [*WRONG, 401, -401, 10 ** 50]:
            if value != -1:
                self.refuses("InvalidNumber", value, Poly, (1,), value)
                self.refuses("InvalidNumber", value, Poly, (), value)
        self.assertEqual(Poly((BIGGEST, -BIGGEST)).coefficients, (BIGGEST, -BIGGEST))
        self.assertEqual(len(Poly((1,) * 200)), 200)

    def test_it_never_changes(self):
        poly = Poly((1, 2), -1)
        for name in ("coefficients", "lowest", "degree", "is_alike_turned"):
            with self.assertRaises(AttributeError):
                setattr(poly, name, 1)
        poly + poly, poly * poly, -poly, poly.turned(), poly.moved(4), poly.raised(2)
        self.assertEqual(told(poly), {-1: 1, 0: 2})

    def test_sums_and_products(self):
        chance = random.Random(7)
        for _ in range(600):
            one, other = some_poly(chance), some_poly(chance)
            keys = {*told(one), *told(other)}
            for made, sign in ((one + other, 1), (one - other, -1)):
                wanted = {at: told(one).get(at, 0) + sign * told(other).get(at, 0) for at in keys}
                self.assertEqual(told(made), {at: number for at, number in wanted.items() if number})
                self.assertTrue(made.coefficients == () or (made.coefficients[0] and made.coefficients[-1]))
            self.assertEqual(told(one * other), product_of(one, other))
            self.assertEqual(told(-one), {at: -number for at, number in told(one).items()})
            self.assertEqual(one - one, Poly(()))
            self.assertEqual((one - one).lowest, 0)

    def test_long_products(self):
        chance = random.Random(8)
        for _ in range(12):
            one, other = [some_poly(chance, 60, BIGGEST, -400) for _ in range(2)]
            self.assertEqual(told(one * other), product_of(one, other))
        edge = Poly((BIGGEST,) * 200, -400)
        self.assertEqual(told(edge * -edge), product_of(edge, -edge))
        self.assertEqual(told(edge * edge.turned()), product_of(edge, edge.turned()))
        for number in (1, -1, 2 ** 63, -2 ** 63, 2 ** 64 - 1, -2 ** 64):
            poly = Poly((number, -number, number, number))
            self.assertEqual(told(poly * poly), product_of(poly, poly))

    def test_far_exponents(self):
        poly = Poly((1,), 400).moved(400).moved(400) + Poly((2,), -400).moved(-400)
        self.assertEqual(told(poly), {1200: 1, -800: 2})
        self.assertEqual((poly.lowest, poly.degree, len(poly)), (-800, 1200, 2001))

    def test_at(self):
        poly = Poly((3, 0, -1), -1)
        self.assertEqual([poly.at(exponent) for exponent in range(-3, 4)], [0, 0, 3, 0, -1, 0, 0])
        self.assertEqual([poly.at(BIGGEST), poly.at(-BIGGEST), Poly(()).at(0)], [0, 0, 0])
        for value in WRONG:
            if value != -1:
                self.refuses("InvalidNumber", value, poly.at, value)

    def test_raised(self):
        chance = random.Random(9)
        for poly in [Poly(()), Poly((1,)), Poly((-1,), -3), Poly((1, 1)), Poly((2, 0, -3), -1), *[some_poly(chance) for _ in range(5)]]:
            made = Poly((1,))
            for many in range(41):
                self.assertEqual(poly.raised(many), made)
                made = made * poly
        self.assertEqual(Poly((1, 1)).raised(40).coefficients[20], 137846528820)
        self.assertEqual(Poly((1,), -400).raised(40).lowest, -16000)
        for value in [*WRONG, 41]:
            self.refuses("InvalidNumber", value, Poly((1, 1)).raised, value)

    def test_turned_and_moved(self):
        chance = random.Random(10)
        for _ in range(100):
            poly = some_poly(chance)
            self.assertEqual(told(poly.turned()), {-at: number for at, number in told(poly).items()})
            self.assertEqual(poly.turned().turned(), poly)
            for by in (-400, -1, 0, 3, 400):
                self.assertEqual(told(poly.moved(by)), {at + by: number for at, number in told(poly).items()})
        self.assertEqual((Poly(()).moved(5).lowest, Poly(()).turned().lowest), (0, 0))
        for value in [*WRONG, 401, -401]:
            if value != -1:
                self.refuses("InvalidNumber", value, Poly((1,)).moved, value)

    def test_value_at(self):
        for number in (-3, -1, 0, 1, 2, BIGGEST, -BIGGEST):
            self.assertEqual(Poly((4, -1, 2)).value_at(number), 4 - number + 2 * number * number)
            self.assertEqual(Poly((4, -1), 3).value_at(number), 4 * number ** 3 - number ** 4)
            self.assertEqual(Poly(()).value_at(number), 0)
            self.assertEqual(Poly((0, 7), -1).value_at(number), 7)
        self.assertEqual(Poly((1,), 400).value_at(2), 2 ** 400)
        below = Poly((1, 1), -1)
        self.refuses("Refused", ("below",), below.value_at, 1)
        self.refuses("Refused", ("below",), below.value_at, 0)
        for value in WRONG:
            if value != -1:
                self.refuses("InvalidNumber", value, below.value_at, value)
                self.refuses("InvalidNumber", value, Poly((1,)).value_at, value)

    def test_reading_alike_from_both_ends(self):
        for poly, alike in ((Poly(()), True), (Poly((5,), 3), True), (Poly((1, 2, 1), -7), True), (Poly((0, 1, 2, 1)), True),
                            (Poly((1, 0, 0, 1)), True), (Poly((1, 2)), False), (Poly((1, -1)), False), (Poly((1, 2, 2, -1)), False)):
            self.assertIs(poly.is_alike_turned, alike)
        chance = random.Random(11)
        for _ in range(100):
            halves = [tuple(chance.randint(-5, 5) for _ in range(4)) for _ in range(2)]
            one, other = [Poly(half + half[::-1], chance.randint(-4, 4)) for half in halves]
            self.assertTrue(one.is_alike_turned and other.is_alike_turned and (one * other).is_alike_turned)

    def test_equality(self):
        self.assertTrue(Poly((0, 1), 1) == Poly((1, 0), 2) and not Poly((0, 1), 1) != Poly((1, 0), 2))
        self.assertTrue(Poly((), 5) == Poly((0, 0, 0), -5))
        for value in [*WRONG, 1, (1,), "1", Poly((1,), 1), Poly((2,)), Poly((1, 1)), Gold(1)]:
            self.assertFalse(Poly((1,)) == value)
            self.assertTrue(Poly((1,)) != value)
        self.assertFalse(Poly(()) == 0)

    def test_operands_of_another_kind(self):
        for value in (None, True, 1, "a", (1,), [1], {}, Gold(1), System(2)):
            for act in (lambda x, y: x + y, lambda x, y: x - y, lambda x, y: x * y):
                with self.assertRaises(TypeError):
                    act(Poly((1,)), value)
                with self.assertRaises(TypeError):
                    act(value, Poly((1,)))
        with self.assertRaises(TypeError):
            list(Poly((1, 2)))

    def test_what_is_not_true(self):
        self.assertTrue(Poly((1, -1)).value_at(1) == 0 and Poly((1, -1)))


TEXTS = {
    "0": ((), 0), "5": ((5,), 0), "-5": ((-5,), 0), "1": ((1,), 0), "-1": ((-1,), 0), "q": ((1,), 1), "-q": ((-1,), 1),
    "2 q": ((2,), 1), "-2 q": ((-2,), 1), "q^2": ((1,), 2), "-q^2": ((-1,), 2), "3 q^17": ((3,), 17), "q^-1": ((1,), -1),
    "-q^-1": ((-1,), -1), "-3 q^-12": ((-3,), -12), "1 + 2 q + q^2": ((1, 2, 1), 0), "-q^-1 + 3": ((-1, 3), -1),
    "1 - 4 q^5": ((1, 0, 0, 0, 0, -4), 0), "q^-2 - q^-1 + 1 - q": ((1, -1, 1, -1), -2), "-1 - q": ((-1, -1), 0),
    "q^-400 + 2 q^-201": ((1,) + (0,) * 198 + (2,), -400), "q^400 - q^599": ((1,) + (0,) * 198 + (-1,), 400),
    "9" * 60: ((BIGGEST,), 0), "-" + "9" * 60 + " q^400": ((-BIGGEST,), 400),
}
NO_TEXTS = [
    "", " ", "\t", "\n", "0 ", " 0", "0\n", "00", "-0", "+0", "+1", "01", "1 + 0 q", "0 q", "0 + q", "q^0", "q^1", "1 q", "-1 q",
    "1 q^2", "2q", "2*q", "2 q ^2", "2  q", "q^02", "q^-0", "q^+2", "q^", "q^-", "^2", "Q", "x", "1 +", "1 + ", "+ 1", "- 1",
    "--1", "1 - -1", "1 + -q", "1 -q", "1-q", "1+ q", "q + 1", "q^2 + q", "1 + 1", "q + q", "1 + q + 1", "1 + q + 2 q", "2 3",
    "1 2 q", "q 2", "q q", "2 q q", "1 + 2 q + q^2 ", "1.0", "1 + q^2 + q", "9" * 61, "-" + "9" * 61 + " q", "q^401", "q^-401",
    "1 + q^200", "q^-400 + q^-200", "q^" + "9" * 70, "1 + q^" + "9" * 59, "q^400 + q^600", "1_0", "\u0663", "\u00b2", "1\u00a0+ q",
    "1 + 2 q + q^2\n", "0x1", "1e3", "q^2^2", "q^-1 + q^-2", "- q", "1 - 4 q^5 - 0", "None", "poly 0 1", "1, 2", "(1)",
]


class TextTest(Case):
    def test_texts(self):
        for text, (coefficients, lowest) in TEXTS.items():
            poly = Poly(coefficients, lowest)
            self.assertEqual(str(poly), text)
            self.assertEqual(Poly.read(text), poly)
            self.assertIs(type(Poly.read(text)), Poly)

    def test_texts_of_chance(self):
        chance = random.Random(12)
        for _ in range(500):
            poly = some_poly(chance, chance.choice((2, 9, 200)), chance.choice((1, 2, BIGGEST)), chance.choice((-8, -400)))
            self.assertEqual(Poly.read(str(poly)), poly)

    def test_texts_of_none(self):
        for text in NO_TEXTS:
            self.refuses("ParseError", 0, Poly.read, text)
        for text in ("9" * 4000, "-" * 4000, "1 + " * 1000, "q^" * 2000, " " * 4000, "1 + q + " * 500):
            self.refuses("ParseError", 0, Poly.read, text)
        for value in WRONG:
            if not isinstance(value, str):
                self.refuses("ParseError", None, Poly.read, value)

    def test_texts_near_to_one(self):
        chance = random.Random(13)
        signs = "0123456789q^+- \n"
        right = 0
        for _ in range(6000):
            text = chance.choice(list(TEXTS))
            at = chance.randint(0, len(text))
            text = text[:at] + chance.choice(["", chance.choice(signs)]) + text[at + chance.randint(0, 1):]
            kind, made = error_of(Poly.read, text)
            if kind is None:
                self.assertEqual(str(made), text)
                right += 1
            else:
                self.assertEqual((kind, made), ("ParseError", 0))
        self.assertGreater(right, 500)

    def test_every_short_text(self):
        wanted = {str(Poly(numbers, low)) for low in range(-9, 100)
                  for numbers in [(n,) for n in range(-99, 1000)] if len(str(Poly(numbers, low))) <= 3}
        for text in [a + b + c for a in " -+0129q^" for b in ["", *" -+0129q^"] for c in ["", *" -+0129q^"]]:
            kind, made = error_of(Poly.read, text)
            self.assertEqual(kind is None, text in wanted, text)


if __name__ == "__main__":
    unittest.main()
