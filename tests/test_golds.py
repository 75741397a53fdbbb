import itertools
import random
import unittest
from decimal import Decimal, getcontext

from tests.reference import is_positive
from tests.support import WRONG, Case
from underwords.base.golds import Gold
from underwords.base.polys import Poly
from underwords.groups.systems import System

BIGGEST = 10 ** 60 - 1


def fibonacci(many):
    a, b = 0, 1
    for _ in range(many):
        a, b = b, a + b
    return a, b


class GoldTest(Case):
    def test_parts(self):
        gold = Gold(3, -2)
        self.assertEqual((gold.whole, gold.part), (3, -2))
        self.assertEqual((Gold(7).whole, Gold(7).part), (7, 0))
        self.assertEqual((Gold(whole=1, part=2).whole, Gold(whole=1, part=2).part), (1, 2))

    def test_it_never_changes(self):
        gold = Gold(3, 2)
        for name in ("whole", "part", "norm", "sense"):
            with self.assertRaises(AttributeError):
                setattr(gold, name, 5)
        gold + gold, gold * gold, gold - gold, -gold
        self.assertEqual(gold, Gold(3, 2))

    def test_wrong_integers(self):
        for value in [*WRONG, 10 ** 99]:
            if value != -1 or isinstance(value, Gold):
                self.refuses("InvalidNumber", value, Gold, value)
                self.refuses("InvalidNumber", value, Gold, 1, value)
        self.refuses("InvalidNumber", "x", Gold, "x", None)
        for value in (BIGGEST, -BIGGEST, 0, -1):
            self.assertEqual((Gold(value, value).whole, Gold(0, value).part), (value, value))
        for value in (BIGGEST + 1, -BIGGEST - 1):
            self.refuses("InvalidNumber", value, Gold, value)

    def test_products_sums_and_norms(self):
        chance = random.Random(1)
        for _ in range(300):
            a, b, c, d = [chance.randint(-50, 50) for _ in range(4)]
            one, other = Gold(a, b), Gold(c, d)
            self.assertEqual(one + other, Gold(a + c, b + d))
            self.assertEqual(one - other, Gold(a - c, b - d))
            self.assertEqual(one * other, Gold(a * c + b * d, a * d + b * c + b * d))
            self.assertEqual(-one, Gold(-a, -b))
            self.assertEqual(one.norm, a * a + a * b - b * b)
            self.assertEqual((one * other).norm, one.norm * other.norm)
            self.assertEqual(one.norm == 0, not one)
        self.assertEqual(Gold(0, 1) * Gold(0, 1), Gold(1, 1))

    def test_results_may_be_longer_than_passed_integers(self):
        gold = Gold(BIGGEST, BIGGEST)
        for _ in range(3):
            gold = gold * gold
        self.assertGreater(gold.whole, 10 ** 400)
        self.assertEqual(gold.sense, 1)
        self.assertEqual((Gold(BIGGEST) + Gold(1)).whole, 10 ** 60)

    def test_sense_and_order_of_small_numbers(self):
        getcontext().prec = 60
        s = (1 + Decimal(5).sqrt()) / 2
        golds = list(itertools.product(range(-9, 10), repeat=2))
        for a, b in golds:
            value = a + b * s
            self.assertEqual(Gold(a, b).sense, 1 if value > 0 else -1 if (a, b) != (0, 0) else 0)
        chance = random.Random(2)
        for _ in range(500):
            (a, b), (c, d) = chance.choice(golds), chance.choice(golds)
            self.assertIs(Gold(a, b).is_less(Gold(c, d)), a + b * s < c + d * s)

    def test_sense_and_order_of_nearly_equal_and_long_numbers(self):
        for many in range(1, 280):
            low, high = fibonacci(many)
            # high - low s goes to 0, with changing signs.
            self.assertEqual(Gold(high, -low).sense, 1 if many % 2 == 0 else -1, many)
            self.assertEqual(Gold(-high, low).sense, -1 if many % 2 == 0 else 1, many)
            self.assertIs(Gold(high).is_less(Gold(0, low)), many % 2 == 1)
            self.assertIs(Gold(0, low).is_less(Gold(high)), many % 2 == 0)
            self.assertFalse(Gold(high, low).is_less(Gold(high, low)))
        chance = random.Random(3)
        for _ in range(200):
            a, b = [chance.randint(-BIGGEST, BIGGEST) for _ in range(2)]
            self.assertEqual(Gold(a, b).sense == 1, is_positive((a, b)))

    def test_is_less_takes_golds_alone(self):
        for value in [*WRONG[:-1], 1, 0, Poly((1,)), System(2)]:
            if not isinstance(value, Gold):
                self.refuses("InvalidOperation", None, Gold(1).is_less, value)

    def test_operands_of_another_kind(self):
        for value in (None, True, 1, "a", (1,), [1], {}, Poly((1,)), System(2)):
            for act in (lambda x, y: x + y, lambda x, y: x - y, lambda x, y: x * y):
                with self.assertRaises(TypeError):
                    act(Gold(1), value)
                with self.assertRaises(TypeError):
                    act(value, Gold(1))

    def test_equality(self):
        self.assertTrue(Gold(1, 2) == Gold(1, 2) and not Gold(1, 2) != Gold(1, 2))
        for value in [*WRONG, 1, Gold(2, 1), Gold(1), Poly((1,))]:
            self.assertFalse(Gold(1, 2) == value)
            self.assertTrue(Gold(1, 2) != value)
        self.assertFalse(Gold(1) == 1)
        self.assertFalse(Gold(0) == False)  # noqa: E712

    def test_truth_and_text(self):
        texts = {(0, 0): "0", (-3, 0): "-3", (5, 0): "5", (0, 1): "s", (0, -1): "-s", (0, -2): "-2 s", (0, 7): "7 s",
                 (4, -1): "4 - s", (1, 2): "1 + 2 s", (-4, 1): "-4 + s", (-1, -12): "-1 - 12 s", (1, 1): "1 + s",
                 (BIGGEST, -BIGGEST): f"{BIGGEST} - {BIGGEST} s"}
        for (whole, part), text in texts.items():
            self.assertEqual(str(Gold(whole, part)), text)
            self.assertIs(bool(Gold(whole, part)), text != "0")

    def test_it_is_not_iterated_over(self):
        with self.assertRaises(TypeError):
            list(Gold(1))

    def test_what_is_not_true(self):
        self.assertEqual((Gold(-1, 1).sense, Gold(2, -1).sense), (1, 1))
        self.assertTrue(Gold(2).is_less(Gold(1, 1)) and Gold(1, 1).is_less(Gold(3)) and (2, 0) > (1, 1))
        self.assertEqual((Gold(0, 1).sense, Gold(0, 1).norm), (1, -1))


if __name__ == "__main__":
    unittest.main()
