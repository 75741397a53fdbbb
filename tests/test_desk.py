import copy
import itertools
import random
import unittest

from tests.reference import FOUR, RING, SQUARE, TWENTY
from tests.support import KEPT, WRONG, Case, error_of, same
from underwords.base.polys import Poly
from underwords.desk import desk as module
from underwords.desk.desk import Desk
from underwords.groups.systems import System
from underwords.groups.words import inverse, left_letters, length, normal, of_length, right_letters
from underwords.ones.polys import p_poly
from underwords.ones.smooth import is_smooth
from underwords.under.under import is_under

ONE = Poly((1,))
MORE = (0, 1, 2, 0, 1, 0, 2, 0, 1, 0, 2)
BROKEN_DEEDS = [*WRONG, ("put",), ("put", "a"), ("put", "a", (0,), 1), ("put", "A", (0,)), ("put", "", (0,)), ("put", "abcdefghi", (0,)), ("put", "a1", (0,)),
                ("put", "a", (3,)), ("put", "a", [0]), ("put", "a", (True,)), ("put", "a", (0,) * 41), ("put", 1, (0,)), ("put", None, (0,)), ("put", "a b", ()),
                ("put", "\u00e4", ()), ("take",), ("take", "a", 1), ("take", "A"), ("take", ("a",)), ("behind", "a"), ("behind", "a", 3), ("behind", "a", True),
                ("behind", "a", -1), ("behind", "a", (0,)), ("ahead", "a", None), ("ahead", 0, "a"), ("turn", "a", "b"), ("turn",), ("join", "a", "b"),
                ("join", "a", "b", (0,)), ("join", "a", "b", "C"), ("join", "a", "b", "c", "d"), ("Put", "a", ()), ("is", "a", ()), ["put", "a", ()],
                ("smooth", "a"), (True, "a"), "turn", ("turn a",), Desk(FOUR), Poly((1,)), (("put", "a", ()),)]
BROKEN_SAYINGS = [*WRONG, ("is",), ("is", "a"), ("is", "a", (3,)), ("is", "a", [0]), ("is", "a", (True,)), ("is", "A", ()), ("is", "a", (), ()), ("length", "a"),
                  ("length", "a", True), ("length", "a", None), ("length", "a", 10 ** 60), ("length", "", 1), ("length", "a", (1,)), ("left", "a", 3), ("left", "a", -1),
                  ("left", "a", False), ("right", "a", 3), ("right", "a"), ("under", "a"), ("under", "a", (0,)), ("under", "a", "b", "c"), ("apart", "a", 1),
                  ("poly", "a", "b"), ("poly", "a", "b", "1"), ("poly", "a", "b", 1), ("poly", "a", "b", (1,)), ("poly", "a", ONE, "b"), ("smooth",), ("smooth", "a", "b"),
                  ("smooth", ("a",)), ["smooth", "a"], ("Smooth", "a"), ("put", "a", ()), ("turn", "a"), (None, "a"), "smooth a", Desk(FOUR), ONE, ("apart", "abcdefghi", "a")]


def filled(system=FOUR):
    desk = Desk(system)
    desk.do(("put", "a", (1,)), ("put", "b", (1, 0, 2, 1)), ("put", "c", (0, 2)))
    return desk


def state_of(desk):
    return desk.system, list(desk.kept.items()), desk.sayings, desk.past


class DeskCase(Case):
    def keeps(self, name, kept, desk, act, *given):
        """A call is refused, and nothing changes."""
        before, twin = state_of(desk), desk.twin()
        self.refuses(name, kept, getattr(desk, act), *given)
        self.assertEqual(state_of(desk), before)
        self.assertEqual(desk, twin)


class DeedsTest(DeskCase):
    def test_constants(self):
        self.assertEqual((module.MAX_NAME, module.MAX_SAID), (8, 20))
        for value in WRONG:
            self.refuses("InvalidSystem", None, Desk, value)
        self.assertEqual((Desk(RING).system, Desk(RING).kept, Desk(RING).sayings, Desk(RING).past), (RING, {}, (), 0))

    def test_each_deed(self):
        desk = Desk(FOUR)
        self.assertIsNone(desk.do(("put", "b", (1, 0, 0, 2, 1)), ("put", "a", (2, 0))))
        self.assertEqual((desk.kept, list(desk.kept), desk.past), ({"a": (0, 2), "b": normal(FOUR, (1, 2, 1))}, ["a", "b"], 1))
        desk.do(("behind", "a", 1))
        self.assertEqual(desk["a"], (0, 2, 1))
        desk.do(("ahead", "a", 1))
        self.assertEqual(desk["a"], (1, 0, 2, 1))
        desk.do(("behind", "a", 1), ("turn", "a"))
        self.assertEqual(desk["a"], normal(FOUR, (2, 0, 1)))
        desk.do(("join", "c", "a", "b"))
        self.assertEqual(desk["c"], normal(FOUR, desk["a"] + desk["b"]))
        desk.do(("join", "a", "a", "a"))
        self.assertEqual(desk["a"], normal(FOUR, (2, 0, 1) * 2))
        desk.do(("take", "b"))
        self.assertEqual((list(desk), desk.past), (["a", "c"], 7))
        desk.do(("put", "c", ()), ("put", "zzzzzzzz", (2, 2)))
        self.assertEqual((desk["c"], desk["zzzzzzzz"], len(desk)), ((), (), 3))

    def test_deeds_one_after_the_other(self):
        desk = filled()
        desk.do(("put", "d", (0,)), ("behind", "d", 1), ("turn", "d"), ("join", "e", "d", "a"), ("take", "d"), ("put", "d", (2,)))
        self.assertEqual((desk["e"], desk["d"], desk.past), (normal(FOUR, (1, 0, 1)), (2,), 2))
        desk.undo()
        self.assertEqual(desk, filled())

    def test_calls_that_change_nothing_are_no_moves(self):
        desk = filled()
        desk.do()
        desk.do(("put", "a", (1, 0, 0)))
        desk.do(("turn", "a"), ("turn", "c"), ("behind", "b", 0), ("behind", "b", 0))
        desk.do(("put", "d", ()), ("take", "d"))
        self.assertEqual(desk.past, 1)
        desk.say(("smooth", "a"))
        desk.say(("smooth", "a"))
        self.assertEqual((desk.past, desk.sayings), (2, (("smooth", "a"),)))
        self.assertEqual(desk, desk.twin())

    def test_values_that_are_no_deeds(self):
        desk = filled()
        for value in BROKEN_DEEDS:
            self.keeps("InvalidOperation", None, desk, "do", value)
            self.keeps("InvalidOperation", None, desk, "do", ("put", "x", ()), value, ("take", "y"))
            self.keeps("InvalidOperation", None, desk, "do", ("take", "y"), value)
        desk.do(("put", "abcdefgh", (0,) * 40))
        self.assertEqual(desk["abcdefgh"], ())

    def test_names_that_stand_for_nothing(self):
        desk = filled()
        for deed, name in ((("take", "x"), "x"), (("behind", "x", 0), "x"), (("ahead", "x", 0), "x"), (("turn", "x"), "x"), (("join", "a", "x", "y"), "x"),
                           (("join", "x", "a", "y"), "y"), (("join", "x", "x", "a"), "x")):
            self.keeps("UnknownName", name, desk, "do", deed)
            self.keeps("UnknownName", name, desk, "do", ("put", "z", ()), deed, ("take", "nothing"))
        self.keeps("UnknownName", "a", desk, "do", ("take", "a"), ("turn", "a"))
        desk.do(("put", "x", ()), ("join", "y", "x", "x"), ("take", "x"))
        self.assertEqual(list(desk), ["a", "b", "c", "y"])

    def test_members_that_get_too_long(self):
        desk = Desk(RING)
        long = (0, 1, 2) * 13 + (0,)
        desk.do(("put", "long", long), ("put", "a", (1,)), ("put", "less", long[1:]))
        self.keeps("Refused", ("long", 0), desk, "do", ("behind", "long", 1))
        self.keeps("Refused", ("long", 0), desk, "do", ("ahead", "long", 2))
        self.keeps("Refused", ("long", 1), desk, "do", ("put", "b", ()), ("join", "long", "long", "a"))
        self.keeps("Refused", ("long", 2), desk, "do", ("turn", "a"), ("turn", "long"), ("behind", "long", 2))
        self.keeps("Refused", ("long", 1), desk, "do", ("behind", "less", 1), ("behind", "long", 1), ("turn", "x"))
        self.keeps("UnknownName", "x", desk, "do", ("turn", "x"), ("behind", "long", 1))
        self.keeps("Refused", ("long", 1), desk, "do", ("take", "a"), ("behind", "long", 1), ("behind", "long", 1))
        desk.do(("behind", "long", 0), ("behind", "long", 2))
        self.assertEqual(length(RING, desk["long"]), 38)

    def test_the_first_of_several_errors(self):
        desk = filled()
        desk.say(("is", "c", (2, 0)))
        desk.say(("length", "b", 4))
        self.keeps("InvalidOperation", None, desk, "do", ("take", "x"), ("take", "c"), None)
        self.keeps("UnknownName", "x", desk, "do", ("take", "c"), ("take", "x"))
        self.keeps("Refused", ("taken", ("is", "c", (2, 0))), desk, "do", ("behind", "b", 1), ("take", "c"))
        self.keeps("Refused", ("broken", ("length", "b", 4)), desk, "do", ("behind", "b", 1), ("put", "c", (0, 2)))
        self.keeps("Refused", ("broken", ("is", "c", (2, 0))), desk, "do", ("behind", "b", 1), ("put", "c", (0,)))
        self.keeps("Refused", ("taken", ("length", "b", 4)), desk, "do", ("put", "c", ()), ("take", "b"))
        self.keeps("Refused", ("taken", ("is", "c", (2, 0))), desk, "do", ("take", "b"), ("take", "c"))

    def test_sayings_are_asked_behind_the_last_deed_alone(self):
        desk = filled()
        for saying in (("length", "b", 4), ("under", "a", "b"), ("poly", "a", "b", Poly((1, 1))), ("right", "b", 1)):
            desk.say(saying)
        desk.do(("take", "a"), ("behind", "b", 1), ("put", "a", (1,)), ("behind", "b", 1))
        self.assertEqual(desk.past, 5)
        desk.do(("take", "b"), ("put", "b", (1, 2, 0, 1)), ("put", "new", ()))
        self.assertEqual((desk["b"], desk.past), ((1, 0, 2, 1), 6))


class SayingsTest(DeskCase):
    def test_each_saying(self):
        desk = filled()
        for saying, is_so in (
                (("is", "a", (1,)), True), (("is", "a", (0, 0, 1)), True), (("is", "a", (0,)), False), (("length", "b", 4), True), (("length", "b", 3), False),
                (("length", "b", -4), False), (("length", "a", 10 ** 60 - 1), False), (("left", "c", 2), True), (("left", "c", 1), False), (("right", "b", 1), True),
                (("right", "b", 0), False), (("under", "a", "b"), True), (("under", "b", "a"), False), (("under", "a", "a"), True), (("apart", "b", "a"), True),
                (("apart", "a", "b"), False), (("apart", "a", "c"), True), (("poly", "a", "b", Poly((1, 1))), True), (("poly", "a", "b", ONE), False),
                (("poly", "a", "c", Poly(())), True), (("poly", "a", "a", ONE), True), (("smooth", "a"), True), (("smooth", "b"), False)):
            self.assertIs(desk.is_true(saying), is_so)
            if is_so:
                past = desk.past
                self.assertIsNone(desk.say(saying))
                self.assertEqual((desk.sayings[-1], desk.past), (saying, past + 1))
            else:
                self.keeps("Refused", ("false",), desk, "say", saying)
        self.assertEqual(len(desk.sayings), 13)

    def test_values_that_are_no_sayings(self):
        desk = filled()
        for value in BROKEN_SAYINGS:
            self.keeps("InvalidOperation", None, desk, "say", value)
            self.keeps("UnknownName", value, desk, "unsay", value)
            self.assertIs(desk.is_true(value), False)
        self.assertIs(desk.is_true(("length", "a", 10 ** 5000)), False)

    def test_names_that_the_desk_has_not(self):
        desk = filled()
        for saying, name in ((("is", "x", ()), "x"), (("length", "x", 1), "x"), (("under", "x", "y"), "x"), (("apart", "a", "y"), "y"), (("poly", "x", "a", ONE), "x"),
                             (("smooth", "x"), "x"), (("left", "x", 0), "x"), (("right", "x", 0), "x")):
            self.keeps("UnknownName", name, desk, "say", saying)
            self.assertIs(desk.is_true(saying), False)

    def test_unsaying(self):
        desk = filled()
        desk.say(("length", "a", 1))
        desk.say(("poly", "a", "b", Poly((1, 1))))
        desk.say(("is", "a", (1, 0, 0)))
        for value in (("length", "a", True), ("length", "a", 2), ("length", "b", 1), ("is", "a", (1,)), ("poly", "a", "b", ONE), ("left", "a", 1), None, (), [("length", "a", 1)]):
            self.keeps("UnknownName", value, desk, "unsay", value)
        self.assertIsNone(desk.unsay(("poly", "a", "b", Poly((0, 1, 1), -1))))
        self.assertEqual((desk.sayings, desk.past), ((("length", "a", 1), ("is", "a", (1, 0, 0))), 5))
        self.keeps("UnknownName", ("poly", "a", "b", Poly((1, 1))), desk, "unsay", ("poly", "a", "b", Poly((1, 1))))
        desk.unsay(("length", "a", 1))
        desk.do(("put", "b", ()), ("take", "c"))
        desk.undo(2)
        self.assertEqual(desk.sayings, (("length", "a", 1), ("is", "a", (1, 0, 0))))

    def refuses(self, name, kept, call, *given, **named):
        """As in Case, but sayings with polynomials are compared as values."""
        told = error_of(call, *given, **named)
        self.assertEqual(told[0], name, (given, told))
        if name in KEPT:
            self.assertTrue(same(told[1], kept) or told[1] == kept, (given, told))

    def test_sayings_with_unlike_words_are_unlike(self):
        desk = filled()
        desk.say(("is", "a", (1,)))
        desk.say(("is", "a", (1, 0, 0)))
        desk.say(("is", "a", (1,)))
        self.assertEqual(desk.sayings, (("is", "a", (1,)), ("is", "a", (1, 0, 0))))
        desk.unsay(("is", "a", (1,)))
        self.assertEqual(desk.sayings, (("is", "a", (1, 0, 0)),))

    def test_20_and_21_sayings(self):
        desk = filled()
        for many in range(20):
            desk.say(("is", "a", (1,) + (0, 0) * many))
        self.assertEqual(len(desk.sayings), 20)
        past = desk.past
        desk.say(("is", "a", (1,)))
        self.assertEqual((len(desk.sayings), desk.past), (20, past))
        self.keeps("TooMany", 20, desk, "say", ("smooth", "a"))
        self.keeps("TooMany", 20, desk, "say", ("smooth", "b"))
        self.keeps("UnknownName", "x", desk, "say", ("smooth", "x"))
        self.keeps("InvalidOperation", None, desk, "say", ("smooth", "X"))
        desk.unsay(("is", "a", (1,)))
        desk.say(("smooth", "a"))
        self.assertEqual((len(desk.sayings), desk.sayings[-1]), (20, ("smooth", "a")))

    def test_lots_that_are_too_large(self):
        desk = Desk(RING)
        desk.do(("put", "more", MORE), ("put", "a", ()), ("put", "b", (0, 1) * 3))
        for saying in (("smooth", "more"), ("poly", "more", "more", ONE), ("poly", "a", "more", ONE), ("poly", "a", "more", Poly(()))):
            self.assertIs(desk.is_true(saying), False)
            self.keeps("Refused", ("false",), desk, "say", saying)
        self.assertIs(desk.is_true(("poly", "more", "a", Poly(()))), True)
        desk.say(("under", "a", "more"))
        desk.say(("poly", "a", "a", ONE))
        desk.say(("smooth", "a"))
        self.keeps("Refused", ("broken", ("poly", "a", "a", ONE)), desk, "do", ("put", "a", MORE))
        desk.unsay(("poly", "a", "a", ONE))
        self.keeps("Refused", ("broken", ("smooth", "a")), desk, "do", ("put", "a", MORE))

    def test_turning_two_members_in_one_call(self):
        chance = random.Random(1)
        for system in (FOUR, SQUARE, TWENTY):
            told = [word for size in range(5) for word in of_length(system, size)]
            for _ in range(15):
                desk = Desk(system)
                one, other = chance.choice(told), chance.choice(told)
                desk.do(("put", "u", one), ("put", "w", other))
                desk.say(("under" if is_under(system, one, other) else "apart", "u", "w"))
                desk.say(("poly", "u", "w", p_poly(system, one, other)))
                desk.do(("turn", "u"), ("turn", "w"))
                self.assertEqual((desk["u"], desk["w"]), (inverse(system, one), inverse(system, other)))


class MovesTest(DeskCase):
    def test_moves_are_taken_back(self):
        desk = filled()
        states = [state_of(Desk(FOUR)), state_of(desk)]
        for act, given in (("say", ("smooth", "a")), ("do", ("turn", "b")), ("do", ("put", "d", ())), ("say", ("under", "d", "a")), ("unsay", ("smooth", "a")), ("do", ("turn", "d")),
                           ("do", ("take", "c"))):
            getattr(desk, act)(given)
            if state_of(desk)[:3] != states[-1][:3]:
                states.append(state_of(desk))
        self.assertEqual(desk.past, len(states) - 1)
        for steps in range(1, len(states)):
            twin = desk.twin()
            self.assertIsNone(twin.undo(steps))
            self.assertEqual(state_of(twin), states[-1 - steps])
        for at in range(len(states) - 2, -1, -1):
            desk.undo()
            self.assertEqual(state_of(desk), states[at])
        self.keeps("NothingToUndo", 1, desk, "undo")

    def test_wrong_numbers_of_steps(self):
        desk = filled()
        for value in (*[told for told in WRONG if told is not True], 0, -1, True, "1", 1.0):
            self.keeps("InvalidNumber", value, desk, "undo", value)
        for value in (2, 3, 10 ** 59):
            self.keeps("NothingToUndo", value, desk, "undo", value)
        desk.undo(steps=1)
        self.assertEqual(desk, Desk(FOUR))

    def test_new_moves_behind_undone_ones(self):
        desk = filled()
        desk.do(("turn", "b"), ("take", "a"))
        desk.undo()
        desk.do(("take", "b"))
        self.assertEqual((list(desk), desk.past), (["a", "c"], 2))
        desk.undo(2)
        self.assertEqual((desk, desk.past), (Desk(FOUR), 0))

    def test_twins_go_on_by_themselves(self):
        desk = filled()
        desk.say(("smooth", "a"))
        twin = desk.twin()
        self.assertEqual((twin, twin.past), (desk, 2))
        twin.unsay(("smooth", "a"))
        twin.do(("put", "a", (0, 1)), ("take", "b"))
        self.assertEqual((desk["a"], desk.past, len(desk.sayings), "b" in desk), ((1,), 2, 1, True))
        desk.undo(2)
        self.assertEqual((twin["a"], twin.past), ((0, 1), 4))
        twin.undo(4)
        self.assertEqual(twin, desk)

    def test_objects_share_no_state(self):
        desk = filled()
        kept = desk.kept
        kept["a"] = ()
        kept.clear()
        self.assertEqual((desk["a"], len(desk)), ((1,), 3))
        before = copy.copy(desk.kept)
        desk.do(("take", "a"))
        self.assertEqual((before["a"], list(desk)), ((1,), ["b", "c"]))

    def test_names_lengths_texts_and_equality(self):
        desk = filled()
        self.assertEqual((list(desk), [name for name in desk], len(desk), str(desk)), (["a", "b", "c"], ["a", "b", "c"], 3, "desk of 3 letters: 3 members, 0 sayings"))
        for value in [*WRONG, "d", "A", "", ("a",), Desk(FOUR)]:
            self.assertIs(value in desk, False)
            self.refuses("UnknownName", value, lambda at: desk[at], value)
        self.assertEqual(("a" in desk, desk["c"]), (True, (0, 2)))
        other = Desk(FOUR)
        other.do(("put", "c", (2, 0)))
        other.do(("put", "b", (1, 2, 0, 1)), ("put", "a", (1,)))
        self.assertEqual((desk == other, desk != other, desk.past == other.past), (True, False, False))
        less = filled()
        less.do(("put", "c", (0,)))
        self.assertEqual((desk == less, desk != less, less == filled(), less == Desk(FOUR)), (False, True, False, False))
        for saying in (("smooth", "a"), ("length", "a", 1)):
            desk.say(saying)
        self.assertNotEqual(desk, other)
        other.say(("length", "a", 1))
        other.say(("smooth", "a"))
        self.assertNotEqual(desk, other)
        other.undo(2)
        other.say(("smooth", "a"))
        other.say(("length", "a", 1))
        self.assertEqual(desk, other)
        self.assertEqual(str(desk), "desk of 3 letters: 3 members, 2 sayings")
        for value in (None, 0, "desk", {}, desk.kept, FOUR, Desk(RING), Desk(System.rows(4))):
            self.assertIs(desk == value, False)
            self.assertIs(desk != value, True)
        self.assertEqual(Desk(System(2)) == Desk(System(2)), True)
        self.assertEqual(Desk(System(2)) == Desk(SQUARE), False)


class Model:
    """A desk kept in plain values, with every state of the past."""

    def __init__(self, system):
        self.system, self.kept, self.said, self.past = system, {}, [], []

    def go(self, kept, said):
        if (kept, said) != (self.kept, self.said):
            self.past.append((self.kept, self.said))
            self.kept, self.said = kept, said

    def holds(self, kept, saying):
        kind, words, last = saying[0], [kept.get(name) for name in saying[1:3] if isinstance(name, str)], saying[-1]
        system = self.system
        return {"is": lambda: normal(system, last) == words[0], "length": lambda: len(words[0]) == last,
                "left": lambda: last in left_letters(system, words[0]), "right": lambda: last in right_letters(system, words[0]),
                "under": lambda: is_under(system, *words), "apart": lambda: not is_under(system, *words),
                "poly": lambda: p_poly(system, *words) == last, "smooth": lambda: is_smooth(system, words[0])}[kind]()

    def names(self, saying):
        return [part for part in saying[1:] if isinstance(part, str)]

    def do(self, *deeds):
        kept = dict(self.kept)
        for index, (kind, name, *rest) in enumerate(deeds):
            needed = rest if kind == "join" else [] if kind == "put" else [name]
            for other in needed:
                if other not in kept:
                    return "UnknownName", other
            if kind == "take":
                del kept[name]
                continue
            word = {"put": lambda: rest[0], "behind": lambda: kept[name] + (rest[0],), "ahead": lambda: (rest[0],) + kept[name],
                    "turn": lambda: kept[name][::-1], "join": lambda: kept[rest[0]] + kept[rest[1]]}[kind]()
            # The letters are put behind one by one, so that no word is too long for a call.
            made = ()
            for letter in word:
                made = normal(self.system, made + (letter,)) if len(made) < 40 else made + (letter,)
                if len(made) > 40:
                    break
            if len(made) > 40:
                return "Refused", ("long", index)
            kept[name] = made
        for saying in self.said:
            if any(name not in kept for name in self.names(saying)):
                return "Refused", ("taken", saying)
        for saying in self.said:
            if not self.holds(kept, saying):
                return "Refused", ("broken", saying)
        self.go(kept, self.said)
        return None, None

    def say(self, saying):
        for name in self.names(saying):
            if name not in self.kept:
                return "UnknownName", name
        if saying not in self.said:
            if len(self.said) == 20:
                return "TooMany", 20
            if not self.holds(self.kept, saying):
                return "Refused", ("false",)
            self.go(self.kept, self.said + [saying])
        return None, None

    def unsay(self, saying):
        if saying not in self.said:
            return "UnknownName", saying
        self.go(self.kept, [told for told in self.said if told != saying])
        return None, None

    def undo(self, steps):
        if steps > len(self.past):
            return "NothingToUndo", steps
        self.kept, self.said = self.past[-steps]
        del self.past[-steps:]
        return None, None


class LongRowsTest(unittest.TestCase):
    def deed(self, chance, system):
        name, one, other = [chance.choice("abcd") for _ in range(3)]
        letter = chance.randrange(system.letters)
        word = tuple(chance.randrange(system.letters) for _ in range(chance.randrange(5)))
        return chance.choice([("put", name, word), ("put", name, word), ("take", name), ("behind", name, letter), ("ahead", name, letter), ("turn", name),
                              ("join", name, one, other)])

    def saying(self, chance, system, model):
        name, other = chance.choice("abcd"), chance.choice("abcd")
        letter = chance.randrange(system.letters)
        word = model.kept.get(name, ())
        poly = p_poly(system, model.kept.get(name, ()), model.kept.get(other, ())) if chance.random() < 0.8 else ONE
        return chance.choice([("is", name, word), ("length", name, len(word)), ("left", name, letter), ("right", name, letter), ("under", name, other),
                              ("apart", name, other), ("poly", name, other, poly), ("smooth", name)])

    def test_long_rows_of_calls_against_a_model(self):
        for seed, system in enumerate((FOUR, SQUARE, System.rows(3), System(2), System.polygon(6))):
            chance = random.Random(seed)
            desk, model = Desk(system), Model(system)
            refused = {}
            for _ in range(400):
                kind = chance.choice(["do", "do", "do", "say", "say", "unsay", "undo"])
                if kind == "do":
                    given = [self.deed(chance, system) for _ in range(chance.choice([1, 1, 1, 2, 3]))]
                elif kind == "undo":
                    given = [chance.choice([1, 1, 2, 5])]
                    if chance.random() < 0.6:
                        continue
                else:
                    given = [chance.choice(model.said) if kind == "unsay" and model.said else self.saying(chance, system, model)]
                wanted = getattr(model, kind)(*given)
                told = error_of(getattr(desk, kind), *given)
                self.assertEqual(told, wanted)
                refused[told[0]] = refused.get(told[0], 0) + 1
                self.assertEqual((desk.kept, list(desk), list(desk.sayings), desk.past),
                                 (model.kept, sorted(model.kept), model.said, len(model.past)))
                self.assertTrue(all(desk.is_true(saying) for saying in desk.sayings))
                for saying in [self.saying(chance, system, model) for _ in range(2)]:
                    known = all(name in model.kept for name in model.names(saying))
                    self.assertIs(desk.is_true(saying), known and model.holds(model.kept, saying))
            self.assertLessEqual({None, "Refused", "UnknownName"}, set(refused))

    def test_moves_and_undo(self):
        chance = random.Random(9)
        desk, model = filled(), Model(FOUR)
        for _ in range(150):
            twin, past = desk.twin(), desk.past
            error_of(desk.do, self.deed(chance, FOUR))
            if desk.past > past:
                again = desk.twin()
                again.undo()
                self.assertEqual((again, again.past), (twin, past))
        self.assertTrue(desk.past > 50)


if __name__ == "__main__":
    unittest.main()
