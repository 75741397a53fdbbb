import itertools
import random
import unittest

from tests.support import WRONG, Case
from underwords.endless.windows import (
    corner_number, is_window, is_window_corner, window_corner, window_length, window_of, window_product, word_of_window,
)
from underwords.groups.systems import System
from underwords.groups.words import length, normal, of_length, product, right_letters
from underwords.under.under import is_under

SIZES = (2, 3)


def entry(window, place):
    """The entry of the full row at any place."""
    n = len(window)
    turns = (place - 1) // n
    return window[place - 1 - turns * n] + turns * n


def led(size, word):
    """The window of a word by exchanges of all the entries that a letter tells."""
    row = {place: place for place in range(-3 * size, 4 * size + 1)}
    for letter in word:
        window = [row[place] for place in range(1, size + 1)]
        full = {place: entry(window, place) for place in row}
        for place in range(-3 * size, 4 * size):
            if (place - letter) % size == 0:
                row[place], row[place + 1] = full[place + 1], full[place]
    return tuple(row[place] for place in range(1, size + 1))


def slow_length(window):
    n = len(window)
    # Pairs of a place of the window and a later place with a lesser entry.
    return sum(entry(window, i) > entry(window, j) for i in range(1, n + 1) for j in range(i + 1, i + 200))


def slow_number(window, place, least):
    return sum(entry(window, at) >= least for at in range(-3000, place + 1))


def short_words(size, most):
    return [word for many in range(most + 1) for word in of_length(System.ring(size), many)]


def some_words(size, most, many, chance):
    return [tuple(chance.randrange(size) for _ in range(chance.randrange(most + 1))) for _ in range(many)]


class WindowsTest(Case):
    def test_windows_of_all_short_words_and_back(self):
        for size in SIZES:
            system = System.ring(size)
            told = {word: window_of(size, word) for word in short_words(size, 9)}
            self.assertEqual(len(set(told.values())), len(told))
            for word, window in told.items():
                self.assertEqual(window, led(size, word))
                self.assertEqual(sum(window), size * (size + 1) // 2)
                self.assertIs(is_window(size, window), True)
                self.assertEqual((word_of_window(size, window), window_length(size, window)), (word, len(word)))
                self.assertEqual(right_letters(system, word), tuple(i for i in range(size) if entry(window, i) > entry(window, i + 1)))

    def test_words_of_all_lengths(self):
        chance = random.Random(1)
        for size in SIZES:
            system = System.ring(size)
            for word in some_words(size, 40, 60, chance):
                window = window_of(size, word)
                self.assertEqual(window, led(size, word))
                self.assertEqual(word_of_window(size, window), normal(system, word))
                self.assertEqual(window_length(size, window), length(system, word))
                self.assertEqual(window_length(size, window), slow_length(window))
        self.assertEqual(window_of(2, (0, 1) * 20), (41, -38))
        self.assertEqual(window_length(2, (-38, 41)), 39)
        self.assertEqual(len(word_of_window(3, (1 - 30, 2, 3 + 30))), 40)

    def test_windows_of_all_small_integers(self):
        for size, bound in ((2, 50), (3, 12)):
            many = 0
            for value in itertools.product(range(-bound, bound + 1), repeat=size):
                wanted = len({item % size for item in value}) == size and sum(value) == size * (size + 1) // 2
                wanted = wanted and sum(abs((value[j] - value[i]) // size) for i in range(size) for j in range(i + 1, size)) <= 40
                many += wanted
                self.assertIs(is_window(size, value), wanted)
            self.assertTrue(many > 80)

    def test_values_near_to_windows(self):
        for value in (*WRONG, (1, 2), (1, 2, 4), (1, 2, 3, 4), (1, 2, 3, 0), (0, 1, 2, 3), [1, 2, 3], (True, 2, 3), (1, 2.0, 3), (1, None, 3), (2, 2, 2), (0, 3, 3),
                      (-32, 3, 35), (10 ** 5000, 2, 4 - 10 ** 5000), "123", ((1,), 2, 3), (1, 2, (3,))):
            self.assertIs(is_window(3, value), False, value)
        for value in ((1, 2, 3), (3, 2, 1), (0, 2, 4), (4, 2, 0), (-29, 2, 33), (2, 3, 1)):
            self.assertIs(is_window(3, value), True, value)
        self.assertEqual([is_window(2, (1 + 2 * k, 2 - 2 * k)) for k in (20, -20, 21, -21)], [True, True, False, False])
        self.assertEqual([is_window(2, (2 + 2 * k, 1 - 2 * k)) for k in (19, -20, 20, -21)], [True, True, False, False])

    def test_products(self):
        chance = random.Random(2)
        for size in SIZES:
            system = System.ring(size)
            for one, other in zip(some_words(size, 20, 60, chance), some_words(size, 20, 60, chance)):
                first, second = window_of(size, one), window_of(size, other)
                made = window_product(size, first, second)
                self.assertEqual(made, window_of(size, product(system, one, other)))
                self.assertEqual(made, tuple(entry(first, entry(second, place)) for place in range(1, size + 1)))
            long = window_of(size, (0, 1) * 9 if size == 2 else (0, 1, 2) * 5)
            self.refuses("TooMany", 40, window_product, size, window_product(size, long, long), long)
        self.assertEqual((window_product(2, (41, -38), (-39, 42)), window_product(2, (-39, 42), (41, -38))), ((1, 2), (1, 2)))
        self.refuses("TooMany", 40, window_product, 2, (41, -38), (41, -38))
        for size in SIZES:
            long = ((0, 1) if size == 2 else (0, 1, 2)) * 21
            for at in (1, 15, 39):
                first, second = window_of(size, long[:at]), window_of(size, long[at:40])
                self.assertEqual(window_length(size, window_product(size, first, second)), 40)
                self.refuses("TooMany", 40, window_product, size, first, window_of(size, long[at:41]))

    def test_errors(self):
        for act, windows, rest in (
                (window_length, 1, ()), (word_of_window, 1, ()), (window_product, 2, ()), (corner_number, 1, (1, 0)), (window_corner, 2, ()),
                (is_window_corner, 2, ((1, 0),))):
            for size in (*WRONG, 0, 1, 4):
                self.refuses("InvalidNumber", size, act, size, *[None] * windows, *rest)
            for at in range(windows):
                for value in (*WRONG, (1, 2), (1, 2, 4), [1, 2, 3], (10 ** 70, 2, 4 - 10 ** 70), (-30, 2, 34), (1, 3, 3)):
                    given = [(1, 2, 3)] * at + [value] + [None] * (windows - at - 1)
                    self.refuses("InvalidRow", None, act, 3, *given, *rest)
        for size in (*WRONG, 0, 1, 4):
            self.refuses("InvalidNumber", size, is_window, size, (1, 2))
            self.refuses("InvalidNumber", size, window_of, size, None)
        for value in (*[told for told in WRONG if told != ()], (2,), [0], (0,) * 41):
            self.refuses("InvalidWord", None, window_of, 2, value)
        self.assertEqual(window_of(3, (2,)), (1, 3, 2))


class CornersTest(Case):
    def test_corner_numbers(self):
        chance = random.Random(3)
        for size in SIZES:
            for word in short_words(size, 4) + some_words(size, 40, 4, chance):
                window = window_of(size, word)
                for place in range(1, size + 1):
                    for least in (-1000, -999, -7, -2, -1, 0, 1, 2, 3, 4, 5, 9, 40, 999, 1000):
                        self.assertEqual(corner_number(size, window, place, least), slow_number(window, place, least))

    def test_corners_against_under(self):
        chance = random.Random(4)
        for size, most in ((2, 4), (3, 3)):
            system = System.ring(size)
            told = {word: window_of(size, word) for word in short_words(size, most) + some_words(size, 16, 8, chance)}
            for one, other in itertools.product(told, repeat=2):
                first, second = told[one], told[other]
                self.check_pair(system, size, one, other, first, second)

    def check_pair(self, system, size, one, other, first, second):
        corner = window_corner(size, first, second)
        self.assertEqual(corner is None, is_under(system, one, other))
        wanted = [(place, least) for place in range(1, size + 1) for least in range(-60, 61)
                  if corner_number(size, first, place, least) > corner_number(size, second, place, least)]
        self.assertTrue(corner in wanted if wanted else corner is None)
        for place in range(0, size + 2):
            for least in range(-20, 21):
                self.assertIs(is_window_corner(size, first, second, (place, least)), (place, least) in wanted)

    def test_far_windows(self):
        for size, windows in ((2, ((41, -38), (-38, 41), (1, 2), (-39, 42))), (3, ((-29, 2, 33), (30, 2, -26), (1, 2, 3), (22, 2, -18)))):
            system = System.ring(size)
            for first, second in itertools.product(windows, repeat=2):
                one, other = word_of_window(size, first), word_of_window(size, second)
                corner = window_corner(size, first, second)
                self.assertEqual(corner is None, is_under(system, one, other))
                if corner is not None:
                    self.assertTrue(is_window_corner(size, first, second, corner))
                    self.assertTrue(corner_number(size, first, *corner) > corner_number(size, second, *corner))

    def test_bounds(self):
        for value in (*[told for told in WRONG if told != -1 and told is not True], -1001, 1001, 10 ** 30, True):
            self.refuses("InvalidNumber", value, corner_number, 3, (1, 2, 3), 1, value)
        for value in (*WRONG, 0, 4, -2):
            self.refuses("InvalidNumber", value, corner_number, 3, (1, 2, 3), value, None)
        self.assertEqual((corner_number(2, (1, 2), 2, -1000), corner_number(2, (1, 2), 1, 1000)), (1003, 0))
        self.assertEqual(corner_number(3, (1, 2, 3), 3, -1), 5)

    def test_values_near_to_corners(self):
        first, second = (0, 3), (2, 1)
        self.assertEqual([(place, least) for place in (1, 2) for least in range(-9, 9) if is_window_corner(2, first, second, (place, least))], [(2, 3)])
        for value in (*WRONG, (2,), (2, 3, 3), [2, 3], (True, 3), (2, True), (2, 3.0), (2, None), ((2,), 3), (2, 10 ** 5000), (2, -10 ** 5000),
                      (10 ** 5000, 3), (0, 3), (3, 3), (-2, 3), "23", (2, 1003), (2, -997)):
            self.assertIs(is_window_corner(2, first, second, value), False, value)
        self.assertIsNone(window_corner(2, (1, 2), (1, 2)))
        self.assertEqual([is_window_corner(2, (3, 0), (-1, 4), value) for value in ((1, 1), (1, True), (True, 1))], [True, False, False])


if __name__ == "__main__":
    unittest.main()
