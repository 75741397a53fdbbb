import itertools
import unittest

from tests.support import WRONG, Case
from underwords.base.golds import Gold
from underwords.groups.systems import BONDS, MAX_LETTERS, System


class SystemTest(Case):
    def test_constants(self):
        self.assertEqual((MAX_LETTERS, BONDS), (4, (0, 2, 3, 4, 5, 6)))

    def test_every_bond_of_every_pair(self):
        for letters in range(1, 5):
            pairs = list(itertools.combinations(range(letters), 2))
            for i, j in pairs:
                for bond in (0, 3, 4, 5, 6):
                    system = System(letters, ((i, j, bond),))
                    self.assertEqual((system.letters, system.bonds), (letters, ((i, j, bond),)))
                    for k, m in pairs:
                        told = bond if (k, m) == (i, j) else 2
                        self.assertEqual((system.bond_of(k, m), system.bond_of(m, k)), (told, told))
            full = tuple((i, j, (0, 3, 4, 5, 6, 3)[at]) for at, (i, j) in enumerate(pairs))
            self.assertEqual(System(letters, full).bonds, full)
            self.assertEqual([System(letters, full).bond_of(j, i) for i, j in pairs], [b for _, _, b in full])

    def test_wrong_letters(self):
        for value in [*WRONG, 0, 5]:
            self.refuses("InvalidNumber", value, System, value)
            self.refuses("InvalidNumber", value, System, value, "no bonds")
        for value in (1, 2, 3, 4):
            self.assertEqual(System(value).letters, value)

    def test_wrong_bonds(self):
        wrong = [*WRONG, ((0, 1, 2),), ((0, 1, 1),), ((0, 1, 7),), ((0, 1, -3),), ((1, 0, 3),), ((0, 0, 3),), ((0, 3, 3),),
                 ((0, 1),), ((0, 1, 3, 4),), ([0, 1, 3],), [(0, 1, 3)], ((0, 2, 3), (0, 1, 3)), ((0, 1, 3), (0, 1, 3)),
                 ((0, 1, 3), (0, 1, 4)), ((1, 2, 3), (0, 2, 3)), ((0, 1, 3), (1, 2, 2)), ((False, 1, 3),), ((0, True, 3),),
                 ((0, 1, False),), ((0, 1, "3"),), ((0, 1, None),), ((-1, 1, 3),), (0, 1, 3), ((0, 1, Gold(3)),),
                 ((0, 1, 10 ** 70),), ((0, 1, 3), 5)]
        for value in wrong:
            self.refuses("InvalidSystem", None, System, 3, value)
        self.refuses("InvalidSystem", None, System, 1, ((0, 1, 3),))
        self.assertEqual(System(3, ((0, 1, 3), (0, 2, 3), (1, 2, 3))).letters, 3)
        self.assertEqual(System(3, ()).bonds, System(3).bonds)

    def test_class_methods_within_their_bounds(self):
        self.assertEqual([System.rows(n) for n in (2, 3, 4, 5)], [
            System(1), System(2, ((0, 1, 3),)), System(3, ((0, 1, 3), (1, 2, 3))),
            System(4, ((0, 1, 3), (1, 2, 3), (2, 3, 3)))])
        self.assertEqual([System.signed(n) for n in (2, 3)], [System(2, ((0, 1, 4),)), System(3, ((0, 1, 4), (1, 2, 3)))])
        for bond in BONDS:
            self.assertEqual(System.polygon(bond), System(2, ((0, 1, bond),) if bond != 2 else ()))
            self.assertEqual(System.polygon(bond).bond_of(1, 0), bond)
        self.assertEqual(System.twenty(), System(3, ((0, 1, 5), (1, 2, 3))))
        self.assertEqual([System.ring(n) for n in (2, 3)],
                         [System(2, ((0, 1, 0),)), System(3, ((0, 1, 3), (0, 2, 3), (1, 2, 3)))])

    def test_class_methods_beyond_their_bounds(self):
        for made, beyond in ((System.rows, (0, 1, 6)), (System.signed, (1, 4)), (System.polygon, (-1, 1, 7, 8)),
                             (System.ring, (0, 1, 4))):
            for value in [*WRONG, *beyond]:
                self.refuses("InvalidNumber", value, made, value)

    def test_bond_of_wrong_letters(self):
        system = System.rows(4)
        for value in [*WRONG, 3]:
            self.refuses("InvalidNumber", value, system.bond_of, value, 0)
            self.refuses("InvalidNumber", value, system.bond_of, 0, value)
            self.refuses("InvalidNumber", value, system.bond_of, value, None)
        self.refuses("InvalidOperation", None, system.bond_of, 1, 1)
        self.refuses("InvalidNumber", 5, system.bond_of, 5, 5)

    def test_it_never_changes(self):
        system = System.ring(3)
        for name in ("letters", "bonds"):
            with self.assertRaises(AttributeError):
                setattr(system, name, 1)

    def test_equality(self):
        self.assertTrue(System.rows(3) == System.polygon(3) and not System.rows(3) != System.polygon(3))
        for value in [*WRONG, System(3), System.rows(4), System.signed(2), ((0, 1, 3),), 2]:
            self.assertFalse(System.rows(3) == value)
            self.assertTrue(System.rows(3) != value)

    def test_text(self):
        self.assertEqual([str(System(n)) for n in (1, 2, 4)], ["1 letters", "2 letters", "4 letters"])
        self.assertEqual(str(System.ring(2)), "2 letters, 0 of 0 1")
        self.assertEqual(str(System(4, ((0, 3, 6), (1, 2, 4)))), "4 letters, 6 of 0 3, 4 of 1 2")

    def test_it_is_not_iterated_over(self):
        with self.assertRaises(TypeError):
            list(System(2))


if __name__ == "__main__":
    unittest.main()
