import random
import unittest

from tests.reference import BIG, FIVE, FOUR, RING, SMALL, SQUARE, TWENTY
from tests.support import WRONG, Case
from underwords import errors
from underwords.algebra.elements import Element, back_of, t_element, unit_element
from underwords.base.golds import Gold
from underwords.base.polys import Poly
from underwords.desk.desk import Desk
from underwords.groups.systems import System
from underwords.groups.words import members, of_length
from underwords.ones.polys import c_element
from underwords.text.texts import read, write
from underwords.under.lots import Lot, lot_of

SIXTY = "9" * 60
ELEMENT = "system 3\n0 1 3\n1 2 3\npart : -1 2\npart 0 2 : 0 1 0 -1\npart 1 : 3 5"
LOT = "lot 0 1 1 2\n0 1\n0 2\n1 3\n2 3"
WIDE = Lot((0,) * 20 + (1,) * 20, tuple((low, 20 + high) for low in range(20) for high in range(20)))


def some_elements():
    chance = random.Random(1)
    for system in SMALL + BIG:
        yield Element(system, {})
        for _ in range(3):
            words = [tuple(chance.randrange(system.letters) for _ in range(chance.randrange(7))) for _ in range(chance.randrange(1, 9))]
            yield Element(system, {word: Poly(tuple(chance.randrange(-2, 3) for _ in range(chance.randrange(5))), chance.randrange(-9, 9))
                                   for word in words})
    yield c_element(FOUR, (1, 0, 2, 1))
    yield back_of(TWENTY, (0, 1, 0, 2))
    yield Element(FIVE, {word: Poly((1,)) for word in members(FIVE)})


class TextsTest(Case):
    def wrong(self, spot, text):
        with self.assertRaises(errors.ParseError) as caught:
            read(text)
        self.assertEqual((caught.exception.spot, type(caught.exception.spot)), (spot, int), text)

    def test_polynomials(self):
        for poly, text in ((Poly(()), "poly 0"), (Poly((2, 0, -1), -1), "poly -1 2 0 -1"), (Poly((1,)), "poly 0 1"), (Poly((0, 0, 5)), "poly 2 5"),
                           (Poly((1,), -400), "poly -400 1"), (Poly((-1,), 400), "poly 400 -1"),
                           (Poly((10 ** 60 - 1, 1 - 10 ** 60)), f"poly 0 {SIXTY} -{SIXTY}"), (Poly((1,) * 200), "poly 0" + " 1" * 200)):
            self.assertEqual(write(poly), text)
            self.assertEqual(read(text), poly)
            self.assertIsInstance(read(text), Poly)

    def test_systems(self):
        for system in SMALL + BIG:
            text = write(system)
            self.assertEqual(text.split("\n")[0], f"system {system.letters}")
            self.assertEqual([tuple(map(int, line.split())) for line in text.split("\n")[1:]], list(system.bonds))
            self.assertEqual(read(text), system)
            self.assertIsInstance(read(text), System)
        self.assertEqual((write(System(1)), write(RING), write(System(2))), ("system 1", "system 3\n0 1 3\n0 2 3\n1 2 3", "system 2"))

    def test_elements(self):
        for element in some_elements():
            text = write(element)
            lines = text.split("\n")
            self.assertEqual(read(text), element)
            self.assertIsInstance(read(text), Element)
            self.assertEqual(lines[0] == "zero", not element)
            self.assertIn(write(element.system), text)
            self.assertEqual(sum(line.startswith("part ") for line in lines), len(element))
        self.assertEqual(write(Element(FOUR, {(): Poly((2,), -1), (0, 2): Poly((1, 0, -1)), (1,): Poly((5,), 3)})),
                         ELEMENT)
        self.assertEqual((write(Element(SQUARE, {})), write(unit_element(System(1)))), ("zero\nsystem 2\n0 1 4", "system 1\npart : 0 1"))
        self.assertEqual(write(t_element(SQUARE, (1, 0))), "system 2\n0 1 4\npart 1 0 : 0 1")
        self.assertEqual(read("zero\nsystem 1"), Element(System(1), {}))

    def test_lots(self):
        for system in (FOUR, TWENTY, SQUARE):
            for word in members(system)[::5]:
                if len(lot_of(system, word)) <= 60:
                    lot = lot_of(system, word)
                    text = write(lot)
                    self.assertEqual(read(text), lot)
                    self.assertEqual(text.split("\n"), ["lot " + " ".join(map(str, lot.ranks)), *[f"{low} {high}" for low, high in lot.covers]])
        self.assertEqual((write(lot_of(FOUR, (0, 2))), read(LOT)), (LOT, lot_of(FOUR, (0, 2))))
        self.assertEqual((write(Lot((0,), ())), write(Lot((3, 3, 40), ()))), ("lot 0", "lot 3 3 40"))
        self.assertEqual(read("lot" + " 7" * 120), Lot((7,) * 120, ()))
        self.assertIsInstance(read(LOT), Lot)

    def test_values_without_a_text(self):
        for value in (*WRONG, Gold(1), Desk(FOUR), Poly, System, "poly 0", (Poly((1,)),), ()):
            self.refuses("InvalidOperation", None, write, value)

    def test_values_that_are_no_texts(self):
        for value in (None, True, 0, (), ("poly 0",), ["poly 0"], {}, Poly((1,)), Gold(0), b"poly 0", FOUR):
            self.refuses("ParseError", None, read, value)

    def test_texts_of_one_wrong_line(self):
        for text in ("", " ", "\n", "\t", "poly", "poly ", "poly  0", " poly 0", "poly 0 ", "poly\t0", "Poly 0", "poly 1", "poly -0", "poly 0 0", "poly 0 0 1",
                     "poly 0 1 0", "poly 00 1", "poly 0 01", "poly 0 +1", "poly 0 1.0", "poly 0 -", "poly 0 --1", "poly 0 -0", "poly 0 - 1",
                     "poly 401 1", "poly -401 1", "poly 0" + " 1" * 201, f"poly 0 1{SIXTY}", f"poly 0 -1{SIXTY}", "poly a", "poly 0 1a", "poly 0 1,2",
                     "poly 0 \u0661", "poly 0 \u00b2", "poly 0 1\r", "poly 0 1_0", "poly 0 0x1", "poly 0 1 \x0b", "polynomial 0", "0", "text",
                     "system", "system 0", "system 5", "system -1", "system 01", "system 3 3", "system  3", "system three", "system 3 ", "systems 3", "system 1\r",
                     "zero", "zero ", "Zero", "zero 0", "zero\r", "part : 0 1", "0 1 3", "lot", "lot ", "lot 41", "lot -1", "lot 1 0", "lot 0 2 1", "lot a", "lot 0  1",
                     "lot 0 1 ", "lot" + " 0" * 121, "lot 00", "lot 0,1", "Lot 0", "lots 0", f"lot {SIXTY}", "lot -0", "lot 0 +1"):
            self.wrong(0, text)

    def test_lines_behind_a_polynomial(self):
        for text in ("poly 0\n", "poly 0\npoly 0", "poly 0 1\n0 1", "poly 1 2\n\n"):
            self.wrong(1, text)
        self.wrong(0, "poly 1\npoly 0")

    def test_wrong_lines_of_systems(self):
        for line in ("", " ", "0 1", "0 1 3 3", "0 1 2", "0 1 1", "0 1 7", "0 1 -3", "1 0 3", "0 0 3", "0 3 3", "-1 0 3", "0  1 3", " 0 1 3", "0 1 3 ",
                     "00 1 3", "0 1 03", "a b c", "0 1 x", "0,1,3", "system 3", "zero", "poly 0", "lot 0", "0 1 3\r", f"0 1 {SIXTY}", "parts : 0 1", "Part : 0 1"):
            self.wrong(1, f"system 3\n{line}")
            self.wrong(1, f"system 3\n{line}\n1 2 3\nnothing")
            self.wrong(2, f"zero\nsystem 3\n{line}")
            self.wrong(2, f"system 3\n0 1 3\n{line}")
        for text in ("system 3\n0 1 3\n0 1 4", "system 3\n0 1 3\n0 1 3", "system 3\n0 2 3\n0 1 3", "system 3\n1 2 3\n0 2 3", "system 3\n0 1 5\n0 1 4"):
            self.wrong(2, text)
        self.wrong(4, "system 3\n0 1 3\n0 2 3\n1 2 3\n1 2 3")
        self.wrong(1, "zero\nzero")
        self.wrong(1, "zero\n")
        self.wrong(1, "zero\npart : 0 1")
        self.wrong(1, "zero\nsystem 0")
        self.wrong(1, "zero\npoly 0")
        self.assertEqual(read("system 4\n0 1 0\n0 2 3\n0 3 4\n1 2 5\n1 3 6\n2 3 3").bonds[0], (0, 1, 0))

    def test_wrong_lines_of_parts(self):
        for line in ("part", "part :", "part 0 :", "part : 0", "part 0 1", "part 0 : 0", "part 0 : 1", "part 0 : 0 0", "part 0 : 0 0 1", "part 0 : 0 1 0",
                     "part 0 : 401 1", "part 0 : -401 1", "part 1 1 : 0 1", "part 2 0 : 0 1", "part 1 0 1 : 0 1", "part 3 : 0 1", "part -1 : 0 1", "part 00 : 0 1",
                     "part 0: 0 1", "part 0 :0 1", "part  : 0 1", "part 0  : 0 1", "part 0 :  0 1", "part 0 : 0 1 ", "part 0 : : 0 1", "part 0 : 0 : 1",
                     "part 0 : 0 01", "part 0 : 0 +1", f"part 0 : 0 1{SIXTY}", "part 0 : 0" + " 1" * 201, "part a : 0 1", "part 0 : a", "part 0,2 : 0 1",
                     "part " + "0 1 2 " * 14 + ": 0 1", "part 0 ; 0 1", "part 0 : 0 1\r", "part 0 : 00 1"):
            self.wrong(3, f"system 3\n0 1 3\n1 2 3\n{line}")
            self.wrong(4, f"system 3\n0 1 3\n1 2 3\npart : 0 1\n{line}")
            self.wrong(3, f"system 3\n0 1 3\n1 2 3\n{line}\npart 2 : 0 1\n")
        for line in ("part : 0 1", "part 0 : 0 1", "part 0 1 : 0 1", "part 0 1 0 : 2 2", "0 1 3", "1 2 3", "0 2 3", "system 3", "zero", "", "poly 0"):
            self.wrong(2, f"system 3\npart 0 2 : 0 1\n{line}" if line != "part 0 1 : 0 1" else "system 3\npart 0 2 : 0 1\npart 0 1 : 0 1")
        for line in ("part 0 2 : 0 1", "part 0 2 : 0 5"):
            self.wrong(2, f"system 3\npart 0 2 : 0 1\n{line}")
        self.wrong(2, "zero\nsystem 3\npart : 0 1")
        self.wrong(3, "zero\nsystem 2\n0 1 3\npart 0 : 0 1")
        self.wrong(2, "zero\nsystem 2\npart nothing")
        self.assertEqual(read("system 3\npart 0 2 : 0 1\npart 1 : 0 1").poly_of((2, 0)), Poly((1,)))
        long = "system 2\n0 1 0\npart " + "0 1 " * 20 + ": 0 1"
        self.assertEqual(read(long), t_element(System.ring(2), (0, 1) * 20))
        self.wrong(2, "system 2\n0 1 0\npart " + "0 1 " * 20 + "0 : 0 1")

    def test_lines_in_another_sequence(self):
        lines = ELEMENT.split("\n")
        self.assertEqual(write(read(ELEMENT)), ELEMENT)
        for at in range(len(lines) - 1):
            turned = lines[:at] + [lines[at + 1], lines[at]] + lines[at + 2:]
            self.wrong({0: 0, 1: 2, 2: 3, 3: 4, 4: 5}[at], "\n".join(turned))

    def test_a_part_behind_120_others(self):
        big = System(4, ((0, 1, 3), (1, 2, 3), (2, 3, 4)))
        for system, words in ((FIVE, members(FIVE)), (big, [word for size in range(8) for word in of_length(big, size)])):
            lines = ["part " + " ".join([*map(str, word), ":"]) + " 0 1" for word in sorted(words)]
            head = write(system).split("\n")
            self.assertEqual(len(read("\n".join(head + lines[:120]))), 120)
            self.wrong(124, "\n".join(head + lines[:120] + (lines[120:] or ["part 3 3 : 0 1"])))
            self.wrong(123, "\n".join(head + lines[:119] + ["part"] + lines[119:]))

    def test_wrong_lines_of_lots(self):
        for line in ("", " ", "0", "0 1 2", "0 3", "1 0", "0 0", "1 2", "3 4", "0 4", "-1 1", "0  1", " 0 1", "0 1 ", "00 1", "0 01", "a b", "0,1", "lot 0 1 1 2", "0 1\r",
                     "3 3", "1 1", f"0 {SIXTY}", "+0 1", "-0 1"):
            self.wrong(1, f"lot 0 1 1 2\n{line}")
            self.wrong(2, f"lot 0 1 1 2\n0 1\n{line}")
            self.wrong(1, f"lot 0 1 1 2\n{line}\n0 1\n")
        for text in ("lot 0 1 1 2\n0 1\n0 1", "lot 0 1 1 2\n0 2\n0 1", "lot 0 1 1 2\n1 3\n0 2", "lot 0 1 1 2\n2 3\n1 3"):
            self.wrong(2, text)
        self.wrong(5, LOT + "\n")
        self.wrong(5, LOT + "\n2 3")

    def test_a_line_behind_300_others(self):
        lines = write(WIDE).split("\n")
        self.assertEqual(len(lines), 401)
        self.wrong(300, "\n".join(lines))
        self.wrong(300, "\n".join(lines[:301]))
        kept = read("\n".join(lines[:300]))
        self.assertEqual((kept.ranks, kept.covers), (WIDE.ranks, WIDE.covers[:299]))
        self.wrong(299, "\n".join(lines[:299] + ["wrong"] + lines[300:]))
        self.wrong(299, "\n".join(lines[:299] + [lines[298]] + lines[300:]))

    def test_longer_integers_are_written_but_not_read(self):
        poly = Poly((10 ** 59,)) * Poly((100,))
        self.assertEqual(write(poly), "poly 0 1" + "0" * 61)
        self.wrong(0, write(poly))
        far = Poly((1,), 400).moved(400)
        self.assertEqual(write(far), "poly 800 1")
        self.wrong(0, write(far))
        self.wrong(3, write(unit_element(FOUR).times(poly) + t_element(FOUR, (1,))))

    def test_each_text_that_is_read_is_the_one_of_what_is_returned(self):
        chance = random.Random(2)
        signs = "01234-: \nplotysemarz"
        told = [ELEMENT, LOT, "poly -1 2 0 -1", "zero\nsystem 2\n0 1 4", write(RING), write(t_element(TWENTY, (2, 1, 0)))]
        many = 0
        for _ in range(6000):
            text = chance.choice(told)
            for _ in range(chance.randrange(1, 3)):
                at = chance.randrange(len(text) + 1)
                kind = chance.randrange(3)
                sign = chance.choice(signs)
                text = text[:at] + (sign if kind else "") + text[at + (kind != 1):]
            try:
                value = read(text)
            except errors.ParseError as error:
                self.assertTrue(0 <= error.spot <= text.count("\n"))
                continue
            many += 1
            self.assertEqual(write(value), text)
        self.assertTrue(many > 200)


if __name__ == "__main__":
    unittest.main()
