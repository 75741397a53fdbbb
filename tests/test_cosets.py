import itertools
import random
import unittest

from tests.reference import BIG, FIVE, FOUR, RING, SMALL, SQUARE, TWENTY
from tests.support import WRONG, Case
from underwords.base.polys import Poly
from underwords.cosets import cosets as module
from underwords.cosets.cosets import (
    coset, coset_p, coset_r, greatest_in, is_least, least_in, least_members, split,
)
from underwords.groups.systems import System
from underwords.groups.words import members, normal, of_length, product, right_letters
from underwords.ones.polys import p_poly, p_row
from underwords.ratio.rs import r_poly, r_row
from underwords.under.under import is_under

ONE, ZERO = Poly((1,)), Poly(())
TWO, SIGNED = System.ring(2), System.signed(3)


def lots(system):
    letters = range(system.letters)
    return [lot for many in range(system.letters + 1) for lot in itertools.combinations(letters, many)]


def by(system, letters):
    """The members by some letters, by length, from words that are put together; at most a few more than 120."""
    found = [()]
    for word in found:
        for letter in letters if len(found) <= 120 and len(word) < 20 else ():
            longer = normal(system, word + (letter,))
            if len(longer) > len(word) and longer not in found:
                found.append(longer)
    return sorted(found, key=lambda word: (len(word), word))


def is_finite(system, letters):
    """Whether at most 120 members are by the letters: none of them has as many letters as those that are put together."""
    told = by(system, letters)
    return len(told) <= 120 and len(told[-1]) < 20


def some(system, most, many, chance):
    found = [word for size in range(most + 1) for word in of_length(system, size)]
    return found if len(found) <= many else chance.sample(found, many)


def signed(word, poly):
    return -poly if len(word) % 2 else poly


class CosetsTest(Case):
    def test_constant(self):
        self.assertEqual(module.KINDS, ("q", "-1"))

    def test_all_members_of_small_systems(self):
        for system in (FOUR, SQUARE, System(1), System(3), System.polygon(5), SIGNED):
            told = members(system)
            for letters in lots(system):
                behind = by(system, letters)
                leasts = [word for word in told if not set(right_letters(system, word)) & set(letters)]
                self.assertEqual(least_members(system, letters), tuple(leasts))
                self.assertEqual(len(leasts) * len(behind), len(told))
                seen = []
                for least in leasts:
                    whole = sorted([product(system, least, x) for x in behind], key=lambda word: (len(word), word))
                    seen.extend(whole)
                    for x in behind:
                        word = product(system, least, x)
                        self.assertEqual(split(system, word, letters), (least, x))
                        self.assertEqual(len(word), len(least) + len(x))
                        self.assertEqual(least_in(system, word, letters), least)
                        self.assertIs(is_least(system, word, letters), word == least)
                        is_greatest = set(letters) <= set(right_letters(system, word))
                        self.assertEqual(greatest_in(system, word, letters) == word, is_greatest)
                    self.assertEqual(coset(system, whole[-1], letters), tuple(whole))
                    self.assertEqual((greatest_in(system, least, letters), whole[0]), (whole[-1], least))
                self.assertEqual(sorted(seen), sorted(told))

    def test_under_keeps_least_and_greatest_members(self):
        chance = random.Random(1)
        for system in (FOUR, SIGNED, FIVE, TWENTY):
            told = members(system)
            for _ in range(60):
                letters = chance.choice(lots(system))
                high = chance.choice(told)
                low = chance.choice([word for word in told if is_under(system, word, high)])
                for act in (least_in, greatest_in):
                    self.assertTrue(is_under(system, act(system, low, letters), act(system, high, letters)))

    def test_all_kinds_of_systems(self):
        chance = random.Random(2)
        for system in SMALL + BIG:
            for word in some(system, 6 if system.letters < 4 else 4, 8, chance):
                for letters in lots(system):
                    least, x = split(system, word, letters)
                    self.assertEqual(normal(system, least + x), word)
                    self.assertEqual(len(least) + len(x), len(word))
                    self.assertLessEqual(set(x), set(letters))
                    self.assertFalse(set(right_letters(system, least)) & set(letters))
                    self.assertEqual(least_in(system, word, letters), least)
                    if is_finite(system, letters):
                        behind = by(system, letters)
                        self.assertEqual(set(coset(system, word, letters)), {normal(system, least + x) for x in behind})
                        self.assertEqual(coset(system, word, letters)[-1], greatest_in(system, word, letters))
                    else:
                        self.refuses("TooMany", 120, coset, system, word, letters)
                        self.refuses("TooMany", 120, greatest_in, system, word, letters)

    def test_words_need_not_be_normal(self):
        self.assertEqual(split(FOUR, (1, 0, 1, 2, 2, 2), (0, 2)), ((0, 1), (0, 2)))
        self.assertEqual(coset(FOUR, (2, 2, 1, 2), (0, 2)), coset(FOUR, (1,), (0, 2)))
        self.assertEqual(coset(FOUR, (2, 1, 1, 2), ()), ((),))

    def test_a_hundred_and_twenty_by_the_letters_and_more(self):
        self.assertEqual(coset(FIVE, (0,), (0, 1, 2, 3)), members(FIVE))
        self.assertEqual(len(greatest_in(TWENTY, (), (0, 1, 2))), 15)
        endless = (TWO, (0, 1)), (RING, (0, 1, 2)), (System(4, ((0, 1, 5), (1, 2, 3))), (0, 1, 2, 3))
        for system, letters in endless:
            for act in (coset, greatest_in):
                self.refuses("TooMany", 120, act, system, (0,), letters)
                self.refuses("InvalidWord", None, act, system, (9,), letters)
            for act in (coset_r, coset_p):
                self.refuses("TooMany", 120, act, system, (), (), letters)
                self.refuses("InvalidOperation", None, act, system, (), (), letters, kind="p")
            self.refuses("TooMany", 120, least_members, system, ())
            self.refuses("InvalidOperation", None, least_members, system, (1, 0))
            self.assertEqual(split(system, (0, 1, 0), letters), ((), (0, 1, 0)))
        self.assertEqual(len(coset(System(4, ((0, 1, 5), (1, 2, 3))), (3,), (0, 1, 2))), 120)

    def test_results_of_more_than_40_letters(self):
        long = (0, 1) * 20
        for act in (coset, greatest_in):
            self.refuses("TooMany", 40, act, TWO, long, (0,))
        self.assertEqual((coset(TWO, long, (1,)), greatest_in(TWO, long, (1,))), ((long[:-1], long), long))
        self.refuses("TooMany", 40, greatest_in, RING, (0, 1, 2) * 12 + (0, 1), (0, 2))
        self.refuses("TooMany", 120, greatest_in, TWO, long, (0, 1))
        self.assertEqual((split(TWO, long, (0, 1)), least_in(TWO, long, (0,))), (((), long), long))

    def test_values_that_are_no_lots_of_letters(self):
        for value in (*[told for told in WRONG if told not in ((),)], (3,), (-1,), (1, 0), (0, 0), [0], (True,), (0, None), (0, 1, 2, 3), "0", 0):
            for act in (is_least, least_in, split, coset, greatest_in):
                self.refuses("InvalidOperation", None, act, FOUR, (0,), value)
                self.refuses("InvalidWord", None, act, FOUR, (3,), value)
            self.refuses("InvalidOperation", None, least_members, FOUR, value)
            for act in (coset_r, coset_p):
                self.refuses("InvalidOperation", None, act, FOUR, (), (), value)
                self.refuses("InvalidWord", None, act, FOUR, (), (3,), value, kind=None)


class PolynomialsTest(Case):
    def told(self):
        chance = random.Random(3)
        for system in (System.rows(3), FOUR, SQUARE, SIGNED, System(3), System.polygon(5)):
            for letters in lots(system):
                leasts = least_members(system, letters)
                for high in leasts if len(leasts) < 4 else chance.sample(leasts, 3):
                    yield system, letters, leasts, high

    def test_sums_over_the_members_by_the_letters(self):
        for system, letters, leasts, high in self.told():
            behind = by(system, letters)
            r, p = r_row(system, high), p_row(system, high)
            greatest = p_row(system, greatest_in(system, high, letters))
            for low in leasts:
                rs = [(x, r.get(normal(system, low + x), ZERO)) for x in behind]
                ps = [(x, p.get(normal(system, low + x), ZERO)) for x in behind]
                self.assertEqual(coset_r(system, low, high, letters), sum((signed(x, poly.moved(len(x))) for x, poly in rs), ZERO))
                self.assertEqual(coset_r(system, low, high, letters, kind="-1"), sum((poly for x, poly in rs), ZERO))
                self.assertEqual(coset_p(system, low, high, letters, kind="q"), sum((signed(x, poly) for x, poly in ps), ZERO))
                self.assertEqual(coset_p(system, low, high, letters, kind="-1"), greatest.get(greatest_in(system, low, letters), ZERO))

    def test_rule_of_r_and_p_of_both_kinds(self):
        for system, letters, leasts, high in self.told():
            lows = [low for low in leasts if is_under(system, low, high)]
            for kind in module.KINDS:
                p = {low: coset_p(system, low, high, letters, kind=kind) for low in leasts}
                self.assertEqual(p[high], ONE)
                for low in leasts:
                    self.assertTrue(low in lows or not p[low])
                    if low in lows:
                        size = len(high) - len(low)
                        self.assertTrue(low == high or not p[low] or 2 * p[low].degree <= size - 1)
                        self.assertTrue(min(p[low].coefficients, default=0) >= 0)
                        total = sum((coset_r(system, low, x, letters, kind=kind) * p[x] for x in lows if is_under(system, low, x)), ZERO)
                        self.assertEqual(p[low].turned().moved(size), total)

    def test_no_letters(self):
        chance = random.Random(4)
        for system in SMALL + BIG:
            told = some(system, 4 if system.letters < 4 else 3, 5, chance)
            for low, high in itertools.product(told, repeat=2):
                for kind in module.KINDS:
                    self.assertEqual(coset_r(system, low, high, (), kind=kind), r_poly(system, low, high))
                    self.assertEqual(coset_p(system, low, high, (), kind=kind), p_poly(system, low, high))

    def test_members_stand_for_their_cosets(self):
        for one, other in (((1,), (1, 0, 2, 1)), ((0, 2), (0, 1, 0, 2, 1)), ((), (2, 1, 0))):
            for letters in lots(FOUR):
                for act, kind in itertools.product((coset_r, coset_p), module.KINDS):
                    wanted = act(FOUR, least_in(FOUR, one, letters), least_in(FOUR, other, letters), letters, kind=kind)
                    for behind in ((), letters[:1], letters):
                        self.assertEqual(act(FOUR, one + behind, other + behind[::-1], letters, kind=kind), wanted)

    def test_all_letters_but_one_in_rows(self):
        for places in range(2, 6):
            system = System.rows(places)
            for out in range(places - 1):
                letters = tuple(letter for letter in range(places - 1) if letter != out)
                leasts = least_members(system, letters)
                for low, high in itertools.product(leasts[::2], leasts[::2]):
                    poly = coset_p(system, low, high, letters)
                    self.assertIn(poly.coefficients, ((), (1,)))

    def test_endless_systems_and_long_words(self):
        long = (1, 0) * 19 + (1,)
        self.assertEqual(coset_p(TWO, (1,), long, (0,), kind="-1"), ONE)
        self.assertEqual(coset_p(TWO, (), (1, 0) * 20, (1,), kind="-1"), ONE)
        self.assertEqual(coset_p(TWO, (), (1, 0) * 20, (1,)), ZERO)
        self.assertEqual(coset_p(TWO, (1, 0) * 20, (1, 0) * 20, (1,)), ONE)
        self.assertEqual(coset_r(TWO, (0,), (0,), (1,)), ONE)
        self.assertEqual(coset_r(TWO, (), (0,), (1,)), r_poly(TWO, (), (0,)))
        chance = random.Random(5)
        for system, letters in ((RING, (0, 2)), (RING, (1,)), (System(3, ((0, 1, 3), (0, 2, 4), (1, 2, 5))), (0, 1))):
            leasts = [word for size in range(5) for word in of_length(system, size) if is_least(system, word, letters)]
            for low, high in [chance.sample(leasts, 2) for _ in range(8)]:
                r, p, behind = r_row(system, high), p_row(system, high), by(system, letters)
                self.assertEqual(coset_r(system, low, high, letters, kind="-1"), sum((r.get(normal(system, low + x), ZERO) for x in behind), ZERO))
                self.assertEqual(coset_p(system, low, high, letters), sum((signed(x, p.get(normal(system, low + x), ZERO)) for x in behind), ZERO))

    def test_lots_that_are_too_large(self):
        more = (0, 1, 2, 0, 1, 0, 2, 0, 1, 0, 2)
        for act in (coset_r, coset_p):
            for kind in module.KINDS:
                self.refuses("TooMany", 120, act, RING, (), more, (), kind=kind)
                self.refuses("TooMany", 120, act, RING, (), (0, 1, 0, 2, 0, 1, 2, 0, 1, 2, 0, 1), (0, 2), kind=kind)
                self.assertIsNotNone(act(RING, more, (), (), kind=kind))
                self.refuses("InvalidWord", None, act, RING, None, more, (), kind=kind)

    def test_kinds(self):
        for value in (*WRONG, "p", "", "Q", "1", -1, ("q",), ["q"], "q "):
            for act in (coset_r, coset_p):
                self.refuses("InvalidOperation", None, act, FOUR, (), (0,), (0,), kind=value)
                self.refuses("InvalidOperation", None, act, RING, (), (0,), (0, 1, 2), kind=value)
                self.refuses("InvalidSystem", None, act, None, (), (0,), (0,), kind=value)
        self.assertEqual(coset_r(FOUR, (), (1,), (0,), kind="q"), coset_r(FOUR, (), (1,), (0,)))

    def test_not_true_ones(self):
        self.assertEqual((coset_p(FOUR, (), (0, 1), (0,)), p_poly(FOUR, (), (0, 1))), (ZERO, ONE))
        self.assertEqual(p_poly(FOUR, (), (0, 2, 1)), ONE)
        self.assertEqual(coset_p(FOUR, (), (0, 2, 1), (0, 2), kind="-1"), Poly((1, 1)))


if __name__ == "__main__":
    unittest.main()
