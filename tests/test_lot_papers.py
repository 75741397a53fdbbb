import itertools
import random
import unittest

from tests.reference import BIG, FOUR, RING, SMALL, SQUARE, TWENTY, Model
from tests.support import WRONG, Case, error_of
from underwords.groups.mirrors import inversions, is_lot_paper, is_mirror, lot_paper, mirrors, root_of
from underwords.groups.systems import System
from underwords.groups.words import members, normal

TWO = System.ring(2)
LONG = tuple((0, 1) * at + (0,) for at in range(20))


def pairs(root):
    return [(number.whole, number.part) for number in root]


def is_between(one, other, middle):
    """Whether c is x a + y b with x and y above 0, by solving for golds as exact fractions of the norm."""
    spots = [(i, j) for i, j in itertools.combinations(range(len(one)), 2) if one[i] * other[j] - one[j] * other[i]]
    if not spots:
        return False
    i, j = spots[0]
    whole = one[i] * other[j] - one[j] * other[i]
    x = middle[i] * other[j] - middle[j] * other[i]
    y = one[i] * middle[j] - one[j] * middle[i]
    if any(whole * c - x * a - y * b for a, b, c in zip(one, other, middle)):
        return False
    return x.sense * whole.sense > 0 and y.sense * whole.sense > 0


class LotPaperTest(Case):
    def check(self, system, lot):
        """Whether the lot is that of a member; a paper of either kind is checked by the words of the document."""
        value = lot_paper(system, lot)
        self.assertTrue(is_lot_paper(system, lot, value), (system.bonds, lot, value))
        inside = {normal(system, word) for word in lot}
        if value[0] == "member":
            self.assertEqual(len(value), 2)
            self.assertEqual(normal(system, value[1]), value[1])
            self.assertEqual(set(inversions(system, value[1])), inside)
            return True
        kind, a, b, c = value
        self.assertEqual(kind, "plane")
        for word in (a, b, c):
            self.assertTrue(is_mirror(system, word) and normal(system, word) == word and len(word) <= 40)
        self.assertTrue(is_between(*[root_of(system, word) for word in (a, b, c)]))
        self.assertEqual([a in inside, b in inside, c in inside], [c not in inside, c not in inside, c in inside])
        return False

    def test_all_lots_of_small_systems(self):
        for system in (System(1), System(2), System.rows(3), SQUARE, System.polygon(5), System.polygon(6), FOUR, System(3)):
            own = {frozenset(inversions(system, word)) for word in members(system)}
            all_mirrors = mirrors(system)
            for size in range(len(all_mirrors) + 1):
                for lot in itertools.combinations(all_mirrors, size):
                    self.assertEqual(self.check(system, lot), frozenset(lot) in own, lot)

    def test_lots_of_all_members(self):
        for system in (SQUARE, FOUR, TWENTY, System.signed(3)):
            for word in members(system):
                self.assertEqual(lot_paper(system, inversions(system, word)), ("member", word))
                self.assertEqual(lot_paper(system, inversions(system, word)[::-1]), ("member", word))

    def test_lots_of_chance(self):
        chance = random.Random(17)
        for system in SMALL + BIG:
            for _ in range(12):
                word = normal(system, tuple(chance.randrange(system.letters) for _ in range(chance.randint(0, 6))))
                lot = list(inversions(system, word))
                self.assertTrue(self.check(system, tuple(lot)))
                if lot:
                    lot.pop(chance.randrange(len(lot)))
                self.check(system, tuple(lot))
                half = tuple(chance.randrange(system.letters) for _ in range(chance.randint(0, 6)))
                mirror = normal(system, half + (0,) + half[::-1])
                if mirror not in lot:
                    self.check(system, (*lot, mirror))

    def test_lots_told_by_other_words(self):
        self.assertEqual(lot_paper(FOUR, ((0, 0, 0), (1, 0, 1, 2, 2))), ("member", (0, 1)))
        self.assertEqual(lot_paper(FOUR, ()), ("member", ()))
        self.assertEqual(lot_paper(TWO, LONG), ("member", (0, 1) * 10))
        self.assertFalse(self.check(FOUR, ((1, 0, 1, 2, 2),)))

    def test_lots_of_up_to_13_letters_are_never_too_many(self):
        for system in (TWO, System(3, ((0, 1, 0), (0, 2, 0), (1, 2, 0))), RING, System(3, ((0, 1, 0), (1, 2, 3)))):
            model = Model(system)
            found = {}
            for size in range(4):
                for half in itertools.product(model.letters, repeat=size):
                    for letter in model.letters:
                        found[normal(system, half + (letter,) + half[::-1])] = True
            if system == TWO:
                found = {normal(system, (0, 1) * at + (0,)): True for at in range(7)}
                found.update({normal(system, (1, 0) * at + (1,)): True for at in range(7)})
            self.assertLessEqual(max(map(len, found)), 13)
            chance = random.Random(18)
            for _ in range(150):
                self.check(system, tuple(chance.sample(list(found), min(len(found), chance.randint(1, 9)))))

    def test_long_mirrors(self):
        self.assertFalse(self.check(TWO, LONG[:1] + LONG[2:]))
        self.assertFalse(self.check(TWO, LONG[1:]))
        self.assertFalse(self.check(TWO, (LONG[-1],)))
        self.assertFalse(self.check(TWO, (*LONG, (1,))))
        self.assertFalse(self.check(TWO, (*LONG[:19], (1,))))
        # The three mirrors that are found first have words of more than 40 letters, others have shorter ones.
        self.assertFalse(self.check(TWO, (*LONG[:3], (1, 0) * 17 + (1,))))
        chance = random.Random(33)
        for _ in range(40):
            ends = [chance.randint(0, 4), chance.randint(0, 4)]
            lot = [*LONG[:ends[0]], *[(1, 0) * at + (1,) for at in range(ends[1])]]
            lot += [(1, 0) * at + (1,) for at in chance.sample(range(5, 20), 2)]
            self.assertFalse(self.check(TWO, tuple(chance.sample(lot, len(lot)))))
        # All mirrors of the plane with at most 40 letters are in the lot.
        rays = LONG + tuple((1, 0) * at + (1,) for at in range(20))
        self.refuses("TooMany", 40, lot_paper, TWO, rays)
        self.assertFalse(is_lot_paper(TWO, rays, ("plane", (0,), (1,), (0, 1, 0))))

    def test_wrong_lots(self):
        wrong = [*WRONG, ((0, 1),), ((),), ((0,), (0,)), ((0,), (1, 0, 1), (0, 1, 0)), ((0,), (0, 0, 0)), [(0,)], ((3,),),
                 ((0,), None), ((0,), [1]), ((True,),), ((0,) * 41,)]
        for lot in wrong:
            if lot != ():
                self.refuses("InvalidMirror", None, lot_paper, FOUR, lot)
                self.refuses("InvalidMirror", None, is_lot_paper, FOUR, lot, None)
                self.refuses("InvalidSystem", None, lot_paper, 4, lot)
                self.refuses("InvalidSystem", None, is_lot_paper, 4, lot, None)
        rays = tuple((0, 1) * at + (0,) for at in range(20)) + tuple((1, 0) * at + (1,) for at in range(20))
        self.assertEqual(error_of(is_lot_paper, TWO, rays, None), (None, False))
        triangle = [word for size in range(3) for half in itertools.product(range(3), repeat=size) for letter in range(3)
                    for word in [normal(RING, half + (letter,) + half[::-1])]]
        self.assertEqual(error_of(is_lot_paper, RING, tuple(dict.fromkeys(triangle)), None), (None, False))
        free = System(3, ((0, 1, 0), (0, 2, 0), (1, 2, 0)))
        many = [half + (letter,) + half[::-1] for half in itertools.product(range(3), repeat=3) for letter in range(3)]
        many = list(dict.fromkeys(normal(free, word) for word in many))
        many += [half + (letter,) + half[::-1] for half in itertools.product(range(3), repeat=4) for letter in range(3)]
        many = list(dict.fromkeys(normal(free, word) for word in many))
        self.assertFalse(self.check(free, tuple(many[:40])))
        self.refuses("InvalidMirror", None, lot_paper, free, tuple(many[:41]))

    def test_right_values(self):
        for lot, value in [
                (((0, 1, 0),), ("plane", (0,), (1,), (1, 0, 1))), (((0, 1, 0),), ("plane", (1,), (0,), (0, 1, 0))),
                (((0, 1, 0),), ("plane", (0, 0, 1), (0,), (0, 1, 0))),
                (((0,), (1,)), ("plane", (1,), (0,), (0, 1, 0))), (((0,), (2,)), ("member", (2, 0))), ((), ("member", (0, 0))),
                (((0,), (2,)), ("member", (0, 1, 1, 2))), (((0,), (1, 0, 1)), ("member", (0, 1))),
                (((0,), (1, 0, 1)), ("member", (0, 2, 2, 1))),
                (((0,), (1,), (1, 0, 1)), ("member", (0, 1, 0))), (((0,), (1,), (1, 0, 1)), ("member", (1, 0, 1)))]:
            self.assertIs(is_lot_paper(FOUR, lot, value), True, (lot, value))
        self.assertTrue(is_lot_paper(TWO, LONG[:1] + LONG[2:], ("plane", LONG[0], LONG[5], LONG[1])))

    def test_wrong_values(self):
        wrong = [
            (((0, 1, 0),), [
                ("plane", (0,), (0, 1, 0), (1,)), ("plane", (0,), (1,), (2,)), ("plane", (0,), (0,), (0, 1, 0)),
                ("plane", (0,), (1, 2, 1), (0, 1, 2, 1, 0)), ("plane", (0,), (1,)), ("plane", (0,), (1,), (0, 1, 0), ()),
                ("plane", (0,), (1,), (0, 1)), ("plane", (0,), (True,), (0, 1, 0)), ("plane", (0,), [1], (0, 1, 0)),
                ["plane", (0,), (1,), (0, 1, 0)], ("member", (0, 1, 0)), ("member", (0, 1)), ("member", ()), ("member",),
                ("Plane", (0,), (1,), (0, 1, 0)), ("plane", None, None, None), ("plane", (0,), (2,), (0, 1, 0)), (0, 1, 2, 3)]),
            (((0,), (2,)), [("member", (0,)), ("member", (2, 1)), ("member", (0, 2, 1)), ("member", [0, 2]), ("member", (0, 3)),
                            ("member", (0, 2), ()), ("member", (False, 2)), ("plane", (0,), (2,), (1,)),
                            ("plane", (0,), (1,), (0, 1, 0)), ("plane", (0, 1, 0), (2,), (0, 1, 2, 1, 0)), ("member", None)]),
            (((0, 1, 2, 1, 0),), [("plane", (0,), (1,), (0, 1, 2, 1, 0)), ("plane", (1,), (2,), (0, 1, 2, 1, 0)),
                                   ("plane", (0,), (2,), (0, 1, 2, 1, 0)), ("plane", (0, 1, 0), (1, 2, 1), (0, 1, 2, 1, 0))]),
            (((0,), (1,), (0, 1, 0)), [("plane", (0,), (1,), (0, 1, 0)), ("member", (0, 1))]),
            ((), [("plane", (0,), (1,), (0, 1, 0)), ("member", (0,))]),
        ]
        for lot, values in wrong:
            for value in values + WRONG:
                self.assertIs(is_lot_paper(FOUR, lot, value), False, (lot, value))

    def test_what_is_not_true(self):
        lot = ((0, 1, 0),)
        self.assertEqual(lot_paper(FOUR, lot)[0], "plane")
        self.assertFalse(any(is_between(root_of(FOUR, (0, 1, 0)), root_of(FOUR, (0, 1, 0)), root_of(FOUR, word)) for word in mirrors(FOUR)))
        self.assertEqual(pairs(root_of(FOUR, (0, 1, 0))), [(1, 0), (1, 0), (0, 0)])


if __name__ == "__main__":
    unittest.main()
