import itertools
import random
import unittest

from tests.reference import BIG, FIVE, FOUR, RING, SMALL, SQUARE, TWENTY, Model, is_positive, times
from tests.support import WRONG, Case
from underwords.base.golds import Gold
from underwords.base.polys import Poly
from underwords.errors import TooMany
from underwords.groups import mirrors as module
from underwords.groups.mirrors import inversions, is_mirror, led_root, mirror_of, mirrors, root_of
from underwords.groups.systems import System
from underwords.groups.words import inverse, length, members, normal, product

TWO = System.ring(2)
BIGGEST = 10 ** 60 - 1


def golds(row):
    return tuple(Gold(whole, part) for whole, part in row)


def mirror_words(system, most):
    """Words x s x' of mirrors, x having up to so many letters, by the members that they are."""
    model = Model(system)
    found = {}
    for size in range(most + 1):
        for ahead in itertools.product(model.letters, repeat=size):
            for letter in model.letters:
                word = ahead + (letter,) + ahead[::-1]
                found.setdefault(model.member(word), []).append((word, model.leads(ahead, model.basis(letter))))
    return found


class MirrorsTest(Case):
    def test_constant(self):
        self.assertEqual(module.MOST_LISTED, 40)

    def test_words_of_mirrors_and_their_roots(self):
        for system in SMALL + BIG:
            model = Model(system)
            roots = set()
            for member, told in mirror_words(system, 3 if system.letters < 4 else 2).items():
                for word, led in told:
                    root = led if model.is_above(led) else tuple((-a, -b) for a, b in led)
                    self.assertTrue(is_mirror(system, word))
                    self.assertEqual(root_of(system, word), golds(root))
                    self.assertEqual(root_of(system, normal(system, word)), golds(root))
                    self.assertEqual(model.leads(word, root), tuple((-a, -b) for a, b in root))
                self.assertNotIn(root, roots)
                roots.add(root)

    def test_words_of_no_mirrors(self):
        for system in (System(1), System.rows(3), SQUARE, TWO, FOUR, RING, System(3, ((0, 1, 6), (1, 2, 4)))):
            model = Model(system)
            wide = mirror_words(system, 5)
            for size in range(6):
                for word in itertools.product(model.letters, repeat=size):
                    self.assertIs(is_mirror(system, word), model.member(word) in wide, word)

    def test_is_mirror_takes_every_value(self):
        for value in [*WRONG, (3,), (True,), (0, True, 0), [0], 10 ** 4000, (0, 1), (), (0, 0)]:
            self.assertIs(is_mirror(FOUR, value), False)
        self.assertTrue(is_mirror(TWO, (0, 1) * 19 + (0,)))
        self.assertFalse(is_mirror(TWO, (0, 1) * 20) or is_mirror(TWO, (0, 1) * 20 + (0,)))
        self.assertTrue(is_mirror(FOUR, (1,) * 39) and not is_mirror(FOUR, (1,) * 40))
        for system in (None, 3, "system"):
            self.refuses("InvalidSystem", None, is_mirror, system, (0,))

    def test_mirrors_of_finite_systems(self):
        for system, many in ((System(1), 1), (System(4), 4), (System.rows(3), 3), (SQUARE, 4), (System.polygon(5), 5),
                             (System.polygon(6), 6), (FOUR, 6), (FIVE, 10), (System.signed(3), 9), (TWENTY, 15),
                             (System(4, ((0, 1, 5), (2, 3, 6))), 11)):
            found = mirrors(system)
            self.assertEqual(len(found), many)
            self.assertEqual(list(found), sorted(found, key=lambda word: (len(word), word)))
            self.assertEqual(found, tuple(word for word in members(system) if is_mirror(system, word)))
            self.assertEqual(found, inversions(system, members(system)[-1]))
            for mirror in found:
                self.assertEqual(mirror_of(system, root_of(system, mirror)), mirror)
        for system in (RING, TWO, System(4, ((0, 1, 6), (2, 3, 6))), System(3, ((0, 1, 0),))):
            self.refuses("TooMany", 120, mirrors, system)

    def test_mirror_of_rows_that_are_no_roots(self):
        for row in ((0, 0, 0), (1, 0, 1), (-1, 0, 0), (2, 0, 0), (1, 1, -1), (0, 0, -1), (1, 2, 1), (Gold(1, 1), 0, 0),
                    (BIGGEST, 0, 0), (0, Gold(0, 1), 0)):
            self.refuses("Refused", ("root",), mirror_of, FOUR, row)
        self.assertEqual(mirror_of(FOUR, (Gold(0), 1, Gold(1))), (1, 2, 1))
        self.assertEqual((mirror_of(SQUARE, (1, 1)), mirror_of(SQUARE, (1, 2))), ((0, 1, 0), (1, 0, 1)))
        self.assertEqual(mirror_of(TWENTY, (Gold(0, 1), Gold(0, 1), Gold(0))), mirror_of(TWENTY, root_of(TWENTY, (0, 1, 0, 1, 0))))

    def test_mirror_of_wrong_rows(self):
        wrong = [*WRONG, (1, 0), (1, 0, 0, 0), [1, 0, 0], (1, 0, True), (1, None, 0), ("1", 0, 0), (10 ** 60, 0, 0),
                 (Poly((1,)), 0, 0), ((1, 0), 0, 0)]
        for row in wrong:
            self.refuses("InvalidOperation", None, mirror_of, FOUR, row)
            self.refuses("InvalidOperation", None, mirror_of, RING, row)
            self.refuses("InvalidSystem", None, mirror_of, None, row)
            self.refuses("InvalidOperation", None, led_root, FOUR, (0,), row)
            self.refuses("InvalidWord", None, led_root, FOUR, (3,), row)
            self.refuses("InvalidSystem", None, led_root, 3, (3,), row)
        self.refuses("TooMany", 120, mirror_of, RING, (5, 5, 5))
        self.refuses("TooMany", 120, mirror_of, RING, (1, 0, 0))

    def test_root_of_wrong_mirrors(self):
        for value in [*WRONG, (), (0, 1), (3,), (0, 1, 2), [0]]:
            self.refuses("InvalidMirror", None, root_of, FOUR, value)
            self.refuses("InvalidSystem", None, root_of, "FOUR", value)
        self.refuses("InvalidMirror", None, root_of, FOUR, (0,) * 41)

    def test_roots_of_long_mirrors_in_endless_systems(self):
        self.assertEqual(root_of(TWO, (0, 1) * 19 + (0,)), (Gold(20), Gold(19)))
        self.assertEqual(root_of(TWO, (1, 0) * 19 + (1,)), (Gold(19), Gold(20)))
        free = System(4, tuple((i, j, 0) for i, j in itertools.combinations(range(4), 2)))
        half = (0, 1, 2, 3) * 4 + (0, 1, 2)
        root = root_of(free, half + (3,) + half[::-1])
        self.assertEqual(root, led_root(free, half, (0, 0, 0, 1)))
        self.assertTrue(all(number.whole > 0 for number in root))

    def test_rows_are_led_as_their_letters_lead_them(self):
        chance = random.Random(14)
        for system in SMALL + BIG:
            model = Model(system)
            for _ in range(20):
                word = tuple(chance.choice(list(model.letters)) for _ in range(chance.randint(0, 40)))
                row = tuple((chance.randint(-9, 9), chance.randint(-9, 9)) for _ in model.letters)
                self.assertEqual(led_root(system, word, golds(row)), golds(model.leads(word, row)))
                self.assertEqual(led_root(system, word, tuple(a for a, _ in row)),
                                 golds(model.leads(word, tuple((a, 0) for a, _ in row))))
        self.assertEqual(led_root(FOUR, (), (1, Gold(2, 3), 0)), (Gold(1), Gold(2, 3), Gold(0)))
        long = led_root(FOUR, (0,), (BIGGEST, -BIGGEST, 0))[0]
        self.assertEqual((long.whole, long.part), (-2 * BIGGEST, 0))
        self.assertEqual(led_root(FOUR, (1,), (long, long, long))[1].whole, -2 * BIGGEST)

    def test_led_roots_of_mirrors(self):
        chance = random.Random(15)
        for system in SMALL + BIG:
            for _ in range(10):
                word = tuple(chance.randrange(system.letters) for _ in range(6))
                half = tuple(chance.randrange(system.letters) for _ in range(4))
                mirror = half + (0,) + half[::-1]
                root = led_root(system, word, root_of(system, mirror))
                wanted = root_of(system, product(system, product(system, word, mirror), inverse(system, word)))
                self.assertIn(wanted, (root, tuple(-number for number in root)))

    def test_inversions(self):
        chance = random.Random(16)
        for system in SMALL + BIG:
            model = Model(system)
            for _ in range(12):
                word = normal(system, tuple(chance.randrange(system.letters) for _ in range(chance.randint(0, 8))))
                found = inversions(system, word)
                made = {normal(system, word[:at + 1] + word[:at][::-1]) for at in range(len(word))}
                self.assertEqual(found, tuple(sorted(made, key=lambda told: (len(told), told))))
                self.assertEqual(len(found), len(word))
                for mirror in found:
                    self.assertLess(length(system, mirror + word), len(word))
                for mirror in [told[0][0] for told in mirror_words(system, 2).values()]:
                    shorter = length(system, mirror + word) < len(word)
                    self.assertNotEqual(length(system, mirror + word), len(word))
                    self.assertEqual(normal(system, mirror) in found, shorter)
                    led = model.leads(word[::-1], [(n.whole, n.part) for n in root_of(system, mirror)])
                    self.assertEqual(not model.is_above(led), shorter)
                for letter in model.letters:
                    if (letter,) not in found:
                        ahead = {normal(system, (letter,) + mirror + (letter,)) for mirror in found} | {(letter,)}
                        self.assertEqual(set(inversions(system, (letter,) + word)), ahead)

    def test_members_with_equal_inversions_are_equal(self):
        for system in (FOUR, SQUARE, TWENTY):
            found = members(system)
            self.assertEqual(len({inversions(system, word) for word in found}), len(found))

    def test_inversions_with_more_than_40_letters(self):
        found = inversions(TWO, (0, 1) * 10)
        self.assertEqual(found, tuple((0, 1) * at + (0,) for at in range(20)))
        self.assertEqual(len(found[-1]), 39)
        self.refuses("TooMany", 40, inversions, TWO, (0, 1) * 10 + (0,))
        self.refuses("TooMany", 40, inversions, TWO, (0, 1) * 20)
        self.assertEqual(inversions(TWO, (0,) * 40), ())
        self.assertEqual(len(inversions(TWO, (0, 0) + (1, 0) * 10)), 20)
        self.refuses("InvalidWord", None, inversions, TWO, (0, 1) * 20 + (0,))
        self.refuses("InvalidSystem", None, inversions, None, (0, 1) * 20 + (0,))
        with self.assertRaises(TooMany):
            inversions(TWO, (1, 0) * 11)

    def test_what_is_not_true(self):
        self.assertFalse(is_mirror(FOUR, (0, 1)))
        led = [root_of(SQUARE, word + (0,) + word[::-1]) for word in members(SQUARE)]
        self.assertNotIn(root_of(SQUARE, (1,)), led)
        self.assertIn(root_of(SQUARE, (1, 0, 1)), led)
        total = tuple(one + other for one, other in zip(root_of(FOUR, (0,)), root_of(FOUR, (2,))))
        self.refuses("Refused", ("root",), mirror_of, FOUR, total)

    def test_reference_numbers(self):
        self.assertEqual(times((0, 1), (0, 1)), (1, 1))
        self.assertTrue(is_positive((-1, 1)) and not is_positive((1, -1)))


if __name__ == "__main__":
    unittest.main()
