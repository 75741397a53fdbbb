import itertools
import random
import unittest

from tests.reference import BIG, FIVE, FOUR, RING, SMALL, SQUARE, TWENTY
from tests.support import WRONG, Case, error_of
from underwords.base.polys import Poly
from underwords.groups.systems import System
from underwords.groups.words import left_letters, members, normal, of_length, right_letters
from underwords.ones import matchings as module
from underwords.ones.matchings import (
    all_bits, all_matchings, is_matching, letter_matching, matching, p_of_lot, r_by_matching_of_lot, r_of_lot,
)
from underwords.ones.polys import p_row
from underwords.ratio.rs import r_row
from underwords.under.lots import Lot, lot_likeness, lot_of
from underwords.under.under import members_under

ZERO = Poly(())
TWO, SIGNED = System.ring(2), System.signed(3)
ONE_ELEMENT = Lot((0,), ())
PAIR = Lot((0, 1), ((0, 1),))
SQUARE_LOT = Lot((0, 1, 1, 2), ((0, 1), (0, 2), (1, 3), (2, 3)))
THREE_ATOMS = Lot((0, 1, 1, 1, 2), ((0, 1), (0, 2), (0, 3), (1, 4), (2, 4), (3, 4)))


def keeps_neighbours(lot, partners):
    """Whether the tuple is a matching [10.1]."""
    pairs = set(lot.covers)
    if not all(partners[at] != at and partners[partners[at]] == at for at in range(len(lot))):
        return False
    if not all((at, near) in pairs or (near, at) in pairs for at, near in enumerate(partners)):
        return False
    return all(partners[low] == high or lot.leads(partners[low], partners[high]) for low, high in pairs)


def searched(lot):
    """All matchings: every way of pairing neighbours, each one tried."""
    pairs = set(lot.covers)

    def paired(told):
        free = [at for at in range(len(lot)) if at not in told]
        if not free:
            yield tuple(told[at] for at in range(len(lot)))
            return
        for near in free[1:]:
            if (free[0], near) in pairs:
                yield from paired({**told, free[0]: near, near: free[0]})

    return tuple(sorted(told for told in paired({}) if keeps_neighbours(lot, told)))


def some_lot(chance, most, share):
    ranks = tuple(sorted(chance.randrange(5) for _ in range(chance.randint(1, most))))
    return Lot(ranks, tuple((low, high) for low in range(len(ranks)) for high in range(len(ranks))
                            if ranks[high] == ranks[low] + 1 and chance.random() < share))


def side_by_side(lots):
    """The lot that has all elements of some lots, with the covers that they have."""
    told = sorted((rank, which, at) for which, lot in enumerate(lots) for at, rank in enumerate(lot.ranks))
    spots = {(which, at): spot for spot, (_, which, at) in enumerate(told)}
    covers = sorted((spots[which, low], spots[which, high]) for which, lot in enumerate(lots) for low, high in lot.covers)
    return Lot(tuple(rank for rank, _, _ in told), tuple(covers))


def told_anew(lot, chance):
    """An alike lot with its elements in another sequence, and where the elements went."""
    told = sorted(range(len(lot)), key=lambda at: (lot.ranks[at], chance.random()))
    spots = {at: spot for spot, at in enumerate(told)}
    return Lot(lot.ranks, tuple(sorted((spots[low], spots[high]) for low, high in lot.covers))), spots


def small_lots():
    for system in SMALL + BIG:
        for size in range(5):
            for word in of_length(system, size):
                lot = lot_of(system, word)
                if len(lot) <= 14:
                    yield system, word, lot


class MatchingTest(Case):
    def test_constants(self):
        self.assertEqual((module.MAX_MATCHED, module.MAX_LISTED), (60, 24))

    def test_bits_of_all_elements(self):
        for lot, bits in ((ONE_ELEMENT, 1), (PAIR, 3), (SQUARE_LOT, 15), (THREE_ATOMS, 31), (lot_of(TWENTY, (0, 1, 2, 0, 1, 0, 1, 2)), None)):
            self.assertEqual(all_bits(lot), 2 ** len(lot) - 1 if bits is None else bits)

    def test_lots_of_members_against_a_search(self):
        chance = random.Random(1)
        told = list(small_lots())
        for _, word, lot in chance.sample(told, 120):
            found = searched(lot)
            self.assertEqual(all_matchings(lot), found)
            self.assertEqual(matching(lot) in found, word != ())
            self.assertTrue(all(is_matching(lot, value) for value in found))

    def test_other_lots_against_a_search(self):
        chance = random.Random(2)
        matched = 0
        for _ in range(1500):
            lot = some_lot(chance, 10, chance.choice((0.3, 0.5, 0.8)))
            found = searched(lot)
            matched += bool(found)
            self.assertEqual(all_matchings(lot), found)
            told = matching(lot)
            self.assertTrue(told in found if found else told is None)
        self.assertGreater(matched, 20)

    def test_values_that_are_judged(self):
        chance = random.Random(3)
        for _ in range(200):
            lot = some_lot(chance, 8, 0.7)
            for _ in range(20):
                value = list(range(len(lot)))
                for low, high in chance.sample(lot.covers, len(lot.covers)):
                    if value[low] == low and value[high] == high and chance.random() < 0.9:
                        value[low], value[high] = high, low
                self.assertIs(is_matching(lot, tuple(value)), keeps_neighbours(lot, value))
        for value in (*WRONG, (1, 0, 3, 2), (2, 3, 0, 1)):
            self.assertIs(is_matching(SQUARE_LOT, value), value in ((1, 0, 3, 2), (2, 3, 0, 1)), value)
        for value in ([1, 0, 3, 2], (1, 0, 3), (1, 0, 3, 2, 4), (1, 0, 2, 3), (True, 0, 3, 2), (1, False, 3, 2), (3, 2, 1, 0),
                      (1, 2, 3, 0), (0, 1, 2, 3), (1, 0, 3, 4), (-3, 0, 3, 2), (1, 0, 3, None), "1032", {}, None):
            self.assertIs(is_matching(SQUARE_LOT, value), False, value)
        self.assertIs(is_matching(PAIR, (1, 0)), True)
        self.assertIs(is_matching(PAIR, (True, False)), False)
        for value in ((), (0,), None, 0):
            self.assertIs(is_matching(ONE_ELEMENT, value), False)

    def test_lots_without_a_matching(self):
        for lot in (ONE_ELEMENT, THREE_ATOMS, Lot((0, 0), ()), Lot((0, 1, 1), ((0, 1), (0, 2))), Lot((0, 2), ()),
                    Lot((0, 0, 1, 1), ((0, 2), (0, 3), (1, 2), (1, 3))), Lot((0, 1, 2, 3), ((0, 1), (1, 2)))):
            self.assertEqual((matching(lot), all_matchings(lot)), (None, ()))
        self.assertEqual((matching(PAIR), all_matchings(PAIR)), ((1, 0), ((1, 0),)))
        self.assertEqual(all_matchings(Lot((0, 1, 2, 3), ((0, 1), (2, 3)))), ((1, 0, 3, 2),))
        self.assertEqual(all_matchings(Lot((0, 1, 2, 3), ((0, 1), (1, 2), (2, 3)))), ((1, 0, 3, 2),))

    def test_many_pieces(self):
        self.assertIsNone(matching(side_by_side([SQUARE_LOT] * 13 + [THREE_ATOMS])))
        lot = side_by_side([SQUARE_LOT] * 15)
        self.assertTrue(len(lot) == 60 and is_matching(lot, matching(lot)))
        lot = side_by_side([SQUARE_LOT] * 6)
        self.assertEqual((len(lot), len(all_matchings(lot))), (24, 64))
        self.assertEqual(all_matchings(side_by_side([PAIR, SQUARE_LOT])), searched(side_by_side([PAIR, SQUARE_LOT])))

    def test_24_and_25_elements(self):
        lot = lot_of(TWO, (0, 1) * 6)
        told = all_matchings(lot)
        self.assertEqual((len(lot), len(told), len(set(told))), (24, 2 ** 11, 2 ** 11))
        self.assertTrue(all(one < other for one, other in zip(told, told[1:])))
        self.assertTrue(all(is_matching(lot, value) for value in told[::50]))
        for at, value in ((24, None), (25, "TooMany"), (60, "TooMany")):
            self.assertEqual(error_of(all_matchings, Lot((0,) * at, ()))[0], value)
        self.refuses("TooMany", 24, all_matchings, Lot((0,) * 25, ()))

    def test_60_and_61_elements(self):
        lot = lot_of(TWO, (0, 1) * 15)
        self.assertEqual(len(lot), 60)
        self.assertTrue(is_matching(lot, matching(lot)))
        self.refuses("TooMany", 60, matching, Lot((0,) * 61, ()))
        self.assertIsNone(matching(Lot((0,) * 60, ())))
        lot = lot_of(TWO, (0, 1) * 16)
        self.refuses("TooMany", 60, matching, lot)
        self.assertIs(is_matching(lot, letter_matching(TWO, (0, 1) * 16, 0)), True)
        for system in (FIVE, SIGNED, TWENTY):
            for word in members(system)[1::7]:
                lot = lot_of(system, word)
                if len(lot) <= 60:
                    self.assertIs(is_matching(lot, matching(lot)), True)

    def test_more_matchings_than_letters(self):
        lot = lot_of(SQUARE, (0, 1, 0))
        by_letters = {letter_matching(SQUARE, (0, 1, 0), 0), letter_matching(SQUARE, (0, 1, 0), 0, right=True)}
        self.assertLess(by_letters, set(all_matchings(lot)))


class LetterTest(Case):
    def test_letters(self):
        chance = random.Random(4)
        for system in SMALL + BIG:
            for word in [chance.choice(of_length(system, size) or [(0,)]) for size in range(1, 5)]:
                lot, words = lot_of(system, word), members_under(system, word)
                for letter in range(system.letters):
                    for right, letters in ((False, left_letters), (True, right_letters)):
                        if letter in letters(system, word):
                            told = letter_matching(system, word, letter, right=right)
                            made = [normal(system, low + (letter,) if right else (letter,) + low) for low in words]
                            self.assertEqual(told, tuple(map(words.index, made)))
                            self.assertIs(is_matching(lot, told), True)
                        else:
                            self.refuses("Refused", ("letter",), letter_matching, system, word, letter, right=right)
                    if letter in left_letters(system, word):
                        self.assertEqual(letter_matching(system, word, letter), letter_matching(system, word, letter, right=False))

    def test_errors(self):
        long = (0, 1, 2) * 13
        for value in WRONG:
            self.refuses("InvalidSystem", None, letter_matching, value, value, value, right=value)
            if value != ():
                self.refuses("InvalidWord", None, letter_matching, FOUR, value, value, right=value)
            self.refuses("InvalidNumber", value, letter_matching, FOUR, (0,), value, right=value)
            if value not in (True, False) or not isinstance(value, bool):
                self.refuses("InvalidOperation", None, letter_matching, FOUR, (0,), 2, right=value)
        for value in (0, 1, None, "left"):
            self.refuses("InvalidOperation", None, letter_matching, RING, long, 0, right=value)
        self.refuses("InvalidNumber", 3, letter_matching, FOUR, (0,), 3)
        self.refuses("TooMany", 120, letter_matching, RING, long, 1)
        self.refuses("InvalidNumber", 3, letter_matching, RING, long, 3)
        self.refuses("Refused", ("letter",), letter_matching, FOUR, (), 0)
        self.assertEqual(letter_matching(FOUR, (1, 1, 0, 0, 2), 2), (1, 0))


class PolysTest(Case):
    def check_lot(self, system, word, ones):
        lot, words = lot_of(system, word), members_under(system, word)
        rows = {high: r_row(system, high) for high in words}
        told = {high: p_row(system, high) for high in words}
        for one in ones(len(words)):
            for other in ones(len(words)):
                self.assertEqual(r_of_lot(lot, one, other), rows[words[other]].get(words[one], ZERO))
                self.assertEqual(p_of_lot(lot, one, other), told[words[other]].get(words[one], ZERO))

    def test_lots_of_members(self):
        chance = random.Random(5)
        for system, word, _ in chance.sample(list(small_lots()), 60):
            self.check_lot(system, word, range)
        for system, word in ((FIVE, (1, 0, 2, 1, 3, 2)), (SIGNED, (0, 1, 0, 2, 1, 0)), (TWENTY, (1, 0, 1, 0, 2, 1))):
            self.check_lot(system, word, lambda many: range(0, many, 5))

    def test_whole_lots_with_up_to_60_elements(self):
        seen = set()
        for system in (FIVE, SIGNED, TWENTY):
            for word in members(system)[1::6]:
                lot = lot_of(system, word)
                if len(lot) <= 60:
                    row = p_row(system, word)
                    at = len(row) // 3
                    self.assertEqual(p_of_lot(lot, 0, len(lot) - 1), row[()])
                    self.assertEqual(p_of_lot(lot, at, len(lot) - 1), row[list(row)[at]])
                    self.assertEqual(r_of_lot(lot, 0, len(lot) - 1), r_row(system, word)[()])
                    seen.add(str(row[()]))
        self.assertGreater(len(seen), 3)

    def test_other_matchings(self):
        chance = random.Random(6)
        for system, word, lot in chance.sample(list(small_lots()), 60):
            if word:
                row = list(r_row(system, word).values())
                for value in all_matchings(lot)[:6]:
                    for one in range(len(lot)):
                        self.assertEqual(r_by_matching_of_lot(lot, value, one), row[one])
        word = (0, 1, 0, 2, 1, 0, 1)
        row = r_row(SIGNED, word)
        for letter in left_letters(SIGNED, word):
            value = letter_matching(SIGNED, word, letter)
            self.assertEqual(r_by_matching_of_lot(lot_of(SIGNED, word), value, 0), row[()])

    def test_lots_that_are_told_anew(self):
        chance = random.Random(7)
        for system, word in ((FOUR, (1, 0, 2, 1)), (FOUR, (0, 1, 2, 1, 0)), (SQUARE, (0, 1, 0)), (SIGNED, (1, 0, 1, 2, 1))):
            lot = lot_of(system, word)
            for _ in range(3):
                other, spots = told_anew(lot, chance)
                last = len(lot) - 1
                for one in range(len(lot)):
                    self.assertEqual(r_of_lot(other, spots[one], spots[last]), r_of_lot(lot, one, last))
                    self.assertEqual(p_of_lot(other, spots[one], spots[last]), p_of_lot(lot, one, last))
                for value in all_matchings(other)[:2] if len(lot) <= 24 else ():
                    self.assertEqual(r_by_matching_of_lot(other, value, spots[0]), r_of_lot(lot, 0, last))

    def test_alike_lots_of_unlike_systems(self):
        one, other = lot_of(FOUR, (0, 1, 2)), lot_of(SIGNED, (0, 1, 2))
        pairs = lot_likeness(one, other)
        for at in range(len(one)):
            self.assertEqual(p_of_lot(one, at, len(one) - 1), p_of_lot(other, pairs[at], len(one) - 1))
            self.assertEqual(r_of_lot(one, at, len(one) - 1), r_of_lot(other, pairs[at], len(one) - 1))

    def test_elements_that_are_not_under(self):
        lot = lot_of(FOUR, (0, 1, 0))
        self.assertEqual([r_of_lot(lot, 5, 0), r_of_lot(lot, 1, 2), p_of_lot(lot, 3, 1), p_of_lot(lot, 2, 1)], [ZERO] * 4)
        self.assertEqual([r_of_lot(lot, 3, 3), p_of_lot(lot, 3, 3)], [Poly((1,))] * 2)

    def test_lots_of_no_members(self):
        for act in (r_of_lot, p_of_lot):
            self.refuses("Refused", ("matching",), act, THREE_ATOMS, 0, 4)
            self.assertIsInstance(act(THREE_ATOMS, 0, 1), Poly)
            self.assertIsInstance(act(Lot((0, 0, 1), ((0, 2),)), 1, 1), Poly)
            self.refuses("Refused", ("matching",), act, Lot((0, 0, 1), ((0, 2), (1, 2))), 0, 2)
        chance = random.Random(8)
        kinds = set()
        for _ in range(300):
            lot = some_lot(chance, 9, 0.8)
            for one, other in itertools.product(range(len(lot)), repeat=2):
                for act in (r_of_lot, p_of_lot):
                    name, kept = error_of(act, lot, one, other)
                    self.assertTrue(isinstance(kept, Poly) if name is None else (name, kept) == ("Refused", ("matching",)))
                    kinds.add(name)
            for value in all_matchings(lot)[:2]:
                name, kept = error_of(r_by_matching_of_lot, lot, value, 0)
                self.assertTrue(isinstance(kept, Poly) if name is None else kept in (("matching",), ("greatest",)))
        self.assertEqual(kinds, {None, "Refused"})

    def test_errors(self):
        wide = side_by_side([PAIR] * 31)
        lot = lot_of(FOUR, (0, 1))
        for value in WRONG:
            for act, more in ((matching, ()), (all_matchings, ()), (is_matching, (None,)), (r_of_lot, (None, None)),
                              (p_of_lot, (None, None)), (r_by_matching_of_lot, (None, None))):
                self.refuses("InvalidLot", None, act, value, *more)
            for act in (r_of_lot, p_of_lot):
                self.refuses("InvalidNumber", value, act, lot, value, None)
                self.refuses("InvalidNumber", value, act, lot, 0, value)
            self.refuses("InvalidOperation", None, r_by_matching_of_lot, lot, value, value)
            self.refuses("InvalidNumber", value, r_by_matching_of_lot, lot, (1, 0, 3, 2), value)
        for value in (4, -1):
            self.refuses("InvalidNumber", value, r_of_lot, lot, value, 0)
            self.refuses("InvalidNumber", value, p_of_lot, lot, 0, value)
            self.refuses("InvalidNumber", value, r_by_matching_of_lot, lot, (1, 0, 3, 2), value)
        long = lot_of(TWO, (0, 1) * 16)
        for act in (r_of_lot, p_of_lot):
            self.refuses("TooMany", 60, act, long, 0, len(long) - 1)
            self.refuses("TooMany", 60, act, long, len(long) - 1, len(long) - 1)
            self.refuses("InvalidNumber", 64, act, long, 64, len(long) - 1)
            self.assertEqual(act(long, 0, 1), r_of_lot(PAIR, 0, 1) if act is r_of_lot else Poly((1,)))
            self.assertIsNone(error_of(act, long, 0, 59)[0])
            self.assertEqual(error_of(act, long, 0, 61), ("TooMany", 60))
            for many in (60, 61):
                fan = Lot((0,) * (many - 1) + (1,), tuple((at, many - 1) for at in range(many - 1)))
                name, kept = ("TooMany", 60) if many == 61 else ("Refused", ("matching",))
                self.refuses(name, kept, act, fan, 0, many - 1)
        value = letter_matching(TWO, (0, 1) * 16, 0)
        self.refuses("TooMany", 60, r_by_matching_of_lot, long, value, 0)
        self.refuses("InvalidNumber", 64, r_by_matching_of_lot, long, value, 64)
        self.refuses("Refused", ("greatest",), r_by_matching_of_lot, side_by_side([PAIR, PAIR]), (2, 3, 0, 1), 0)
        self.refuses("InvalidNumber", 4, r_by_matching_of_lot, side_by_side([PAIR, PAIR]), (2, 3, 0, 1), 4)
        self.refuses("Refused", ("greatest",), r_by_matching_of_lot, wide, matching_of_pairs(31), 0)
        self.assertEqual(r_by_matching_of_lot(lot_of(TWO, (0, 1) * 15), letter_matching(TWO, (0, 1) * 15, 0), 59), Poly((1,)))


def matching_of_pairs(many):
    return tuple(range(many, 2 * many)) + tuple(range(many))


if __name__ == "__main__":
    unittest.main()
