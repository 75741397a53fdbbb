"""Wrong arguments of every function: each one alone, two at once, and errors behind the word "then" [0.4]."""

import itertools
import unittest

from tests.reference import FOUR, RING, TWENTY
from tests.support import Case, error_of
from underwords.base.golds import Gold
from underwords.base.polys import Poly
from underwords.groups.mirrors import (
    inversions, is_lot_paper, is_mirror, led_root, lot_paper, mirror_of, mirrors, root_of,
)
from underwords.groups.systems import System
from underwords.groups.words import (
    inverse, is_likeness, is_shortest, left_letters, length, likeness, members, normal, of_length, product, right_letters,
    shortest_words,
)
from underwords.under.intervals import covers_of, interval, ladder_number, middle_pair, moebius, numbers
from underwords.under.lots import Lot, is_lot_likeness, lot_likeness, lot_of
from underwords.under.under import all_places, is_under, is_under_paper, members_under, under_paper

LOT = Lot((0, 1), ((0, 1),))
ODD = [None, True, False, 10 ** 99, -10 ** 60, "", "word", " \t\n", (None,), (True,), (0, False), ("0",), [], [0], [(0,)], {},
       {(0,): 1}, {0: (1,)}, ((((((((),),),),),),),), (10 ** 60,), (3,), (-1,), Gold(0), Poly((1,)), (Gold(1),), (0,) * 41]

# Each kind of argument: values that are none, the error, and whether it keeps the value.
KINDS = {
    "system": ([*ODD, 3, (), LOT], "InvalidSystem", False),
    "word": ([*ODD, FOUR, LOT, 0, ((),), ((0,),)], "InvalidWord", False),
    "mirror": ([*ODD, FOUR, LOT, 0, (), (0, 1), (0, 0)], "InvalidMirror", False),
    "lot": ([*ODD, FOUR, LOT, 0, ((0, 1),), ((0,), (0,)), ((3,),)], "InvalidMirror", False),
    "row": ([*ODD, FOUR, LOT, (), (0, 0), (0, 0, 0, 0), (0, 0, None), (0, 0, True), (0, 0, Poly((1,)))], "InvalidOperation", False),
    "size": ([*ODD, FOUR, LOT, -1, 41, ()], "InvalidNumber", True),
    "order": ([*ODD, FOUR, 0, ()], "InvalidLot", False),
}
CALLS = [
    (normal, ("system", FOUR), ("word", (0, 1))), (length, ("system", FOUR), ("word", (0, 1))),
    (is_shortest, ("system", FOUR), (None, (0, 1))), (product, ("system", FOUR), ("word", (0,)), ("word", (1,))),
    (inverse, ("system", FOUR), ("word", ())), (left_letters, ("system", FOUR), ("word", (0,))),
    (right_letters, ("system", FOUR), ("word", (0,))), (shortest_words, ("system", FOUR), ("word", (0, 2))),
    (members, ("system", FOUR)), (of_length, ("system", FOUR), ("size", 2)),
    (likeness, ("system", FOUR), ("word", (0,)), ("word", (1,))),
    (is_likeness, ("system", FOUR), ("word", (0,)), ("word", (1,)), (None, ("unlike", 0))),
    (is_mirror, ("system", FOUR), (None, (0,))), (mirrors, ("system", FOUR)), (root_of, ("system", FOUR), ("mirror", (0, 1, 0))),
    (mirror_of, ("system", FOUR), ("row", (1, 1, 0))), (led_root, ("system", FOUR), ("word", (0,)), ("row", (1, 1, Gold(2, 3)))),
    (inversions, ("system", FOUR), ("word", (0, 1))), (lot_paper, ("system", FOUR), ("lot", ((0,), (1,)))),
    (is_lot_paper, ("system", FOUR), ("lot", ((0,), (1,))), (None, ("member", (0,)))),
    (is_under, ("system", FOUR), ("word", (0,)), ("word", (1,))), (under_paper, ("system", FOUR), ("word", (0,)), ("word", (1,))),
    (is_under_paper, ("system", FOUR), ("word", (0,)), ("word", (1,)), (None, ("places", ()))),
    (all_places, ("system", FOUR), ("word", (0,)), ("word", (1, 0))), (members_under, ("system", FOUR), ("word", (1, 0))),
    (interval, ("system", FOUR), ("word", (0,)), ("word", (1, 0))), (numbers, ("system", FOUR), ("word", (1, 0))),
    (moebius, ("system", FOUR), ("word", (0,)), ("word", (1, 0))), (covers_of, ("system", FOUR), ("word", (1, 0))),
    (ladder_number, ("system", FOUR), ("word", (0,)), ("word", (1, 0))),
    (middle_pair, ("system", FOUR), ("word", ()), ("word", (1, 0))), (lot_of, ("system", FOUR), ("word", (1, 0))),
    (lot_likeness, ("order", LOT), ("order", LOT)), (is_lot_likeness, ("order", LOT), ("order", LOT), (None, (0, 1))),
]


class ArgumentsTest(Case):
    def refused(self, act, kind, value, given):
        _, name, keeps = KINDS[kind]
        self.refuses(name, value if keeps else None, act, *given)

    def test_each_right_call(self):
        for act, *parameters in CALLS:
            self.assertIsNone(error_of(act, *[value for _, value in parameters])[0])

    def test_each_wrong_argument_alone(self):
        for act, *parameters in CALLS:
            right = [value for _, value in parameters]
            for at, (kind, _) in enumerate(parameters):
                for value in KINDS[kind][0] if kind else ():
                    self.refused(act, kind, value, [*right[:at], value, *right[at + 1:]])

    def test_the_first_of_two_wrong_arguments(self):
        for act, *parameters in CALLS:
            right = [value for _, value in parameters]
            for (at, (kind, _)), (later, (other, _)) in itertools.combinations(enumerate(parameters), 2):
                for value in KINDS[kind][0] if kind else ():
                    for worse in KINDS[other][0][::3] if other else (None, 10 ** 99):
                        given = [*right[:at], value, *right[at + 1:later], worse, *right[later + 1:]]
                        self.refused(act, kind, value, given)

    def test_values_that_are_judged(self):
        for act, *parameters in CALLS:
            if parameters[-1][0] is None:
                right = [value for _, value in parameters[:-1]]
                self.assertIs(act(*right, parameters[-1][1]), act not in (is_lot_paper, is_under_paper))
                for value in [*ODD, FOUR, LOT, act, (act,), ("path", ODD), ("bar", ODD, ODD), ("plane", 1, 2, 3), 10 ** 5000]:
                    self.assertIs(act(*right, value), False, (act, value))

    def test_words_are_those_of_the_system(self):
        for word in ((2,), (0, 2)):
            self.refuses("InvalidWord", None, normal, System(2), word)
        self.assertEqual(normal(System(3), (2, 0)), (0, 2))

    def test_errors_behind_then_are_raised_last(self):
        long = (0, 1, 2) * 13
        for act, given, name, kept in (
                (product, (RING, long, long), "TooMany", 40), (product, (RING, long, (3,)), "InvalidWord", None),
                (shortest_words, (3, long), "InvalidSystem", None), (members, (RING,), "TooMany", 120),
                (of_length, (System(4, ((0, 1, 0), (0, 2, 0), (0, 3, 0), (1, 2, 0), (1, 3, 0), (2, 3, 0))), 41), "InvalidNumber", 41),
                (likeness, (RING, long, None), "InvalidWord", None), (likeness, (RING, long, ()), "TooMany", 20),
                (mirror_of, (RING, ()), "InvalidOperation", None), (mirror_of, (RING, (0, 0, 0)), "TooMany", 120),
                (inversions, (System.ring(2), (0, 1) * 20), "TooMany", 40),
                (all_places, (RING, long, (0, 0)), "InvalidOperation", None), (all_places, (RING, None, (0, 0)), "InvalidWord", None),
                (all_places, (System.ring(2), (0, 1, 0, 1), (0, 1) * 20), "TooMany", 2000),
                (members_under, (RING, long), "TooMany", 120), (interval, (RING, None, long), "InvalidWord", None),
                (interval, (RING, long, long), "TooMany", 120), (middle_pair, (RING, (), long), "InvalidOperation", None),
                (middle_pair, (RING, long[2:], long), "TooMany", 120), (lot_of, (RING, long), "TooMany", 120)):
            self.refuses(name, kept, act, *given)

    def test_arguments_are_not_changed_and_results_are_equal(self):
        for act, *parameters in CALLS:
            given = [value for _, value in parameters]
            before = [repr(value) if not isinstance(value, (System, Lot)) else str(value) for value in given]
            first, second = act(*given), act(*given)
            if act is not root_of and act is not led_root:
                self.assertEqual(first, second)
            self.assertEqual([repr(value) if not isinstance(value, (System, Lot)) else str(value) for value in given], before)
        self.assertEqual(root_of(TWENTY, (0, 1, 0)), root_of(TWENTY, (0, 1, 0)))

    def test_results_are_tuples(self):
        for act in (shortest_words, inversions, members_under, covers_of, left_letters):
            self.assertIsInstance(act(FOUR, (0, 1, 0)), tuple)
        self.assertTrue(all(isinstance(word, tuple) for word in shortest_words(FOUR, (0, 1, 0))))
        self.assertIsInstance(likeness(FOUR, (0, 0), ())[1], tuple)


if __name__ == "__main__":
    unittest.main()
