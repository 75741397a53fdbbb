import itertools
import random
import unittest

from tests.reference import BIG, FIVE, FOUR, RING, SMALL, SQUARE, TWENTY
from tests.support import WRONG, Case
from underwords.base.golds import Gold
from underwords.groups.systems import System
from underwords.groups.words import inverse, members
from underwords.under import lots
from underwords.under.lots import Lot, is_lot_likeness, lot_likeness, lot_of
from underwords.under.under import is_under, members_under

SMALL_LOT = Lot((0, 1, 1, 2), ((0, 1), (0, 2), (1, 3), (2, 3)))


def cycles(sizes, around):
    """A lot of rings of so many elements at each of two ranks, perhaps with one element below and one above all."""
    many = sum(sizes)
    covers, ahead = set(), 0
    for size in sizes:
        for at in range(size):
            covers.update([(ahead + at, many + ahead + at), (ahead + at, many + ahead + (at + 1) % size)])
        ahead += size
    if not around:
        return Lot((0,) * many + (1,) * many, tuple(sorted(covers)))
    covers = {(low + 1, high + 1) for low, high in covers}
    covers.update([(0, at + 1) for at in range(many)] + [(many + 1 + at, 2 * many + 1) for at in range(many)])
    return Lot((0,) + (1,) * many + (2,) * many + (3,), tuple(sorted(covers)))


def others(lot):
    """The lot with all pairs at ranks that differ by 1 that are no covers."""
    pairs = itertools.product(range(len(lot)), repeat=2)
    return Lot(lot.ranks, tuple(pair for pair in pairs
                                if lot.ranks[pair[1]] == lot.ranks[pair[0]] + 1 and pair not in lot.covers))


def shuffled(chance, lot):
    """An alike lot, and the likeness."""
    led = list(range(len(lot)))
    for rank in set(lot.ranks):
        spots = [at for at in led if lot.ranks[at] == rank]
        for at, other in zip(spots, chance.sample(spots, len(spots))):
            led[at] = other
    return Lot(lot.ranks, tuple(sorted((led[low], led[high]) for low, high in lot.covers))), tuple(led)


def some_lot(chance, most):
    ranks = tuple(sorted(chance.choice((0, 0, 1, 1, 2, 3, 40)) for _ in range(chance.randint(1, most))))
    pairs = [pair for pair in itertools.product(range(len(ranks)), repeat=2) if ranks[pair[1]] == ranks[pair[0]] + 1]
    return Lot(ranks, tuple(sorted(chance.sample(pairs, chance.randint(0, len(pairs))))))


class LotTest(Case):
    def test_constants(self):
        self.assertEqual((lots.MAX_ELEMENTS, lots.MAX_ALIKE), (120, 60))

    def test_parts(self):
        self.assertEqual((SMALL_LOT.ranks, SMALL_LOT.covers), ((0, 1, 1, 2), ((0, 1), (0, 2), (1, 3), (2, 3))))
        self.assertEqual([SMALL_LOT.below(at) for at in range(4)], [(), (0,), (0,), (1, 2)])
        self.assertEqual([SMALL_LOT.above(at) for at in range(4)], [(1, 2), (3,), (3,), ()])
        self.assertEqual((len(SMALL_LOT), str(SMALL_LOT)), (4, "lot of 4 elements, 4 covers"))
        self.assertEqual(str(Lot((40,), ())), "lot of 1 elements, 0 covers")
        with self.assertRaises(TypeError):
            list(SMALL_LOT)
        for name in ("ranks", "covers"):
            with self.assertRaises(AttributeError):
                setattr(SMALL_LOT, name, ())

    def test_lots_of_120_and_121_elements(self):
        self.assertEqual(len(Lot((0,) * 120, ())), 120)
        wide = tuple((low, high) for low in range(60) for high in range(60, 120))
        self.assertEqual(len(Lot((3,) * 60 + (4,) * 60, wide).above(7)), 60)
        self.refuses("InvalidLot", None, Lot, (0,) * 121, ())

    def test_wrong_ranks(self):
        for value in [*WRONG, (1, 0), (0, 41), (-1, 0), (0, True), (0, "1"), (0, None), [0, 1], (0, 10 ** 70), (0, 2, 1), Gold(0)]:
            if value != (0,) * 41:
                self.refuses("InvalidLot", None, Lot, value, ())
                self.refuses("InvalidLot", None, Lot, value, None)
        self.assertEqual(Lot((0, 0, 7, 40), ()).ranks, (0, 0, 7, 40))

    def test_wrong_covers(self):
        ranks = (0, 1, 1, 2)
        for value in [*WRONG, ((0, 3),), ((1, 2),), ((1, 0),), ((0, 0),), ((0, 4),), ((-1, 1),), ((0, 2), (0, 1)), ((0, 1), (0, 1)),
                      ((0, 1, 2),), ((0,),), ([0, 1],), [(0, 1)], ((False, 1),), ((0, True),), ((0, "1"),), ((0, None),),
                      ((0, 10 ** 70),), (0, 1), ((0, 1), None)]:
            if value != ():
                self.refuses("InvalidLot", None, Lot, ranks, value)

    def test_elements_that_are_none(self):
        for value in [*WRONG, 4]:
            for act in (SMALL_LOT.below, SMALL_LOT.above):
                self.refuses("InvalidNumber", value, act, value)
            for act in (SMALL_LOT.leads, SMALL_LOT.between):
                self.refuses("InvalidNumber", value, act, value, 0)
                self.refuses("InvalidNumber", value, act, 3, value)
                self.refuses("InvalidNumber", value, act, value, -5)
        self.refuses("InvalidOperation", None, SMALL_LOT.between, 1, 2)
        self.refuses("InvalidOperation", None, SMALL_LOT.between, 3, 0)

    def test_leads_and_between(self):
        chance = random.Random(28)
        for _ in range(60):
            lot = some_lot(chance, 9)
            under = {(at, at) for at in range(len(lot))} | set(lot.covers)
            for _ in range(4):
                under |= {(a, d) for (a, b), (c, d) in itertools.product(under, repeat=2) if b == c}
            for one, other in itertools.product(range(len(lot)), repeat=2):
                self.assertIs(lot.leads(one, other), (one, other) in under)
                if (one, other) in under:
                    kept = [at for at in range(len(lot)) if (one, at) in under and (at, other) in under]
                    part = lot.between(one, other)
                    self.assertEqual(part.ranks, tuple(lot.ranks[at] - lot.ranks[one] for at in kept))
                    self.assertEqual(part.covers, tuple((kept.index(a), kept.index(b)) for a, b in lot.covers
                                                        if a in kept and b in kept))
                else:
                    self.refuses("InvalidOperation", None, lot.between, one, other)

    def test_equality(self):
        self.assertTrue(SMALL_LOT == Lot(SMALL_LOT.ranks, SMALL_LOT.covers) and not SMALL_LOT != SMALL_LOT.between(0, 3))
        for value in [*WRONG, Lot((0, 1, 1, 2), ()), Lot((0, 1, 1, 3), ((0, 1), (0, 2))), SMALL_LOT.ranks, 4]:
            self.assertFalse(SMALL_LOT == value)
            self.assertTrue(SMALL_LOT != value)

    def test_lots_of_members(self):
        chance = random.Random(29)
        for system in SMALL + BIG:
            for _ in range(4):
                word = tuple(chance.randrange(system.letters) for _ in range(chance.randint(0, 7)))
                lot, found = lot_of(system, word), members_under(system, word)
                self.assertEqual(lot.ranks, tuple(len(low) for low in found))
                self.assertEqual(lot.covers, tuple(
                    (a, b) for a, b in itertools.product(range(len(found)), repeat=2)
                    if len(found[b]) == len(found[a]) + 1 and is_under(system, found[a], found[b])))
                for one, other in itertools.product(range(0, len(lot), 3), repeat=2):
                    self.assertIs(lot.leads(one, other), is_under(system, found[one], found[other]))
        self.assertEqual(len(lot_of(TWENTY, members(TWENTY)[-1])), 120)
        self.refuses("TooMany", 120, lot_of, RING, (0, 1, 2) * 5)
        for value in WRONG:
            if value != ():
                self.refuses("InvalidWord", None, lot_of, RING, value)
            self.refuses("InvalidSystem", None, lot_of, value, value)


class LikenessTest(Case):
    def check(self, one, other, alike):
        told = lot_likeness(one, other)
        self.assertEqual(told is not None, alike, (one.ranks, one.covers, other.covers))
        if alike:
            self.assertTrue(is_lot_likeness(one, other, told))
            self.assertEqual(sorted(told), list(range(len(one))))
            self.assertEqual([other.ranks[at] for at in told], list(one.ranks))
            self.assertEqual(sorted((told[low], told[high]) for low, high in one.covers), list(other.covers))

    def brute(self, one, other):
        if one.ranks != other.ranks:
            return []
        return [led for led in itertools.permutations(range(len(one)))
                if all(one.ranks[at] == other.ranks[to] for at, to in enumerate(led))
                and sorted((led[low], led[high]) for low, high in one.covers) == list(other.covers)]

    def test_all_ways_for_small_lots(self):
        chance = random.Random(30)
        for _ in range(120):
            one = some_lot(chance, 5)
            other = chance.choice([shuffled(chance, one)[0], some_lot(chance, 5), others(one)])
            right = self.brute(one, other)
            self.check(one, other, bool(right))
            if len(one) < 5:
                for value in itertools.product(range(-1, len(one) + 1), repeat=len(one)):
                    self.assertIs(is_lot_likeness(one, other, value), value in right)

    def test_lots_of_members(self):
        chance = random.Random(31)
        for system in SMALL + BIG:
            word = tuple(chance.randrange(system.letters) for _ in range(5))
            lot = lot_of(system, word)
            other, led = shuffled(chance, lot)
            self.assertTrue(is_lot_likeness(lot, other, led))
            self.check(lot, other, True)
            self.check(lot, lot_of(system, inverse(system, word)), True)
        three = System.signed(3)
        self.check(lot_of(three, (0, 1, 0, 2, 1)), lot_of(three, (0, 1, 2, 1, 0)), False)
        self.check(lot_of(FOUR, (0, 1)), lot_of(SQUARE, (1, 0)), True)
        self.check(lot_of(FOUR, (0, 1, 0)), lot_of(RING, (0, 1, 2)), False)

    def test_lots_with_many_alike_parts(self):
        chance = random.Random(32)
        for around in (False, True):
            for turn in (lambda lot: lot, others):
                one = turn(cycles([3] * 6 + [4, 6], around))
                self.check(one, shuffled(chance, one)[0], True)
                self.check(one, shuffled(chance, turn(cycles([3] * 6 + [5, 5], around)))[0], False)
                self.check(one, shuffled(chance, turn(cycles([3] * 8 + [4], around)))[0], False)
        plain = Lot((0,) * 30 + (1,) * 30, ())
        self.check(plain, plain, True)
        self.check(others(plain), others(plain), True)
        points = [triple for triple in itertools.combinations(range(1, 16), 3) if triple[0] ^ triple[1] == triple[2]]
        plane = Lot((0,) * 15 + (1,) * 35, tuple(sorted(
            (point - 1, 15 + at) for at, triple in enumerate(points) for point in triple)))
        self.check(plane, shuffled(chance, plane)[0], True)

    def test_lots_of_60_and_61_elements(self):
        sixty, more = Lot((0,) * 60, ()), Lot((0,) * 61, ())
        self.check(sixty, sixty, True)
        self.assertIsNone(lot_likeness(sixty, SMALL_LOT))
        for one, other in ((more, more), (more, sixty), (sixty, more), (SMALL_LOT, more)):
            self.refuses("TooMany", 60, lot_likeness, one, other)
        self.refuses("InvalidLot", None, lot_likeness, more, None)
        self.assertTrue(is_lot_likeness(more, more, tuple(range(60, -1, -1))))
        full = lot_of(FIVE, members(FIVE)[-1])
        self.assertTrue(is_lot_likeness(full, full, tuple(range(120))))
        self.assertFalse(is_lot_likeness(full, full, (0, 2, 1) + tuple(range(3, 120))))

    def test_wrong_lots(self):
        for value in [*WRONG, SMALL_LOT.ranks]:
            self.refuses("InvalidLot", None, lot_likeness, value, SMALL_LOT)
            self.refuses("InvalidLot", None, lot_likeness, SMALL_LOT, value)
            self.refuses("InvalidLot", None, is_lot_likeness, value, SMALL_LOT, (0, 1, 2, 3))
            self.refuses("InvalidLot", None, is_lot_likeness, SMALL_LOT, value, (0, 1, 2, 3))

    def test_wrong_values(self):
        for value in [*WRONG, (0, 1, 2), (0, 1, 2, 3, 4), (0, 1, 1, 3), (1, 0, 2, 3), (0, 1, 3, 2), (3, 2, 1, 0), [0, 1, 2, 3],
                      (False, 1, 2, 3), (0, True, 2, 3), (0, 1, 2, "3"), (0, 1, 2, None), (0, 1, 2, 10 ** 99), (0, 1, 2, -1),
                      (0, (1,), 2, 3)]:
            self.assertIs(is_lot_likeness(SMALL_LOT, SMALL_LOT, value), False, value)
        for value in ((0, 1, 2, 3), (0, 2, 1, 3)):
            self.assertIs(is_lot_likeness(SMALL_LOT, SMALL_LOT, value), True)
        less = Lot((0, 1, 1, 2), ((0, 1), (0, 2), (1, 3)))
        self.assertFalse(is_lot_likeness(less, SMALL_LOT, (0, 1, 2, 3)) or is_lot_likeness(SMALL_LOT, less, (0, 1, 2, 3)))
        self.assertFalse(is_lot_likeness(Lot((0,), ()), Lot((1,), ()), (0,)))

    def test_what_is_not_true(self):
        lot = lot_of(FOUR, (1, 0, 2, 1))
        part = lot.between(members_under(FOUR, (1, 0, 2, 1)).index((1,)), len(lot) - 1)
        self.assertEqual([part.ranks.count(rank) for rank in range(4)], [1, 4, 4, 1])


if __name__ == "__main__":
    unittest.main()
