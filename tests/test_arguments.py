"""Wrong arguments of every function: each one alone, two at once, and errors behind the word "then" [0.4]."""

import itertools
import unittest

from tests.reference import FOUR, RING, TWENTY
from tests.support import Case, error_of
from underwords.algebra.elements import Element, back_of, letter_element, product_along, t_element, unit_element
from underwords.base.golds import Gold
from underwords.base.polys import Poly
from underwords.cells.cells import c_product, cell_table, greatest_power, left_cells, mu_ties, turned_poly
from underwords.cosets.cosets import (
    coset, coset_p, coset_r, greatest_in, is_least, least_in, least_members, split,
)
from underwords.desk.desk import Desk
from underwords.endless.numbers import (
    degrees, greatest_length, is_endless, least_numbers, length_numbers, numbers_by_letters,
)
from underwords.endless.windows import (
    corner_number, is_window, is_window_corner, window_corner, window_length, window_of, window_product, word_of_window,
)
from underwords.groups.mirrors import (
    inversions, is_lot_paper, is_mirror, led_root, lot_paper, mirror_of, mirrors, root_of,
)
from underwords.groups.systems import System
from underwords.groups.words import (
    inverse, is_likeness, is_shortest, left_letters, length, likeness, members, normal, of_length, product, right_letters,
    shortest_words,
)
from underwords.loose.diagrams import (
    all_diagrams, diagram_of, diagram_product, is_diagram, letter_diagram, loose_image, loose_of_diagram, loose_product,
)
from underwords.loose.loose import (
    heap_of, is_loose, is_loose_paper, loose_members, loose_of_length, loose_paper, readings,
)
from underwords.ones.masks import (
    defect, first_mask, is_tight, is_tight_paper, letters_product, made_by, mask_poly, mask_row, masks, r_by_masks,
    strict_masks, tight_paper,
)
from underwords.ones.matchings import (
    all_matchings, is_matching, letter_matching, matching, p_of_lot, r_by_matching_of_lot, r_of_lot,
)
from underwords.ones.polys import c_element, mu, p_by_bar, p_poly, p_row
from underwords.ones.smooth import (
    is_row_paper, is_smooth, is_smooth_paper, mirrors_at, row_paper, smooth_paper, worst_members,
)
from underwords.paths.orders import (
    is_mirror_order, is_order_paper, is_rising, least_steps, longest_member, longest_rising, mirror_row, moved_order,
    order_paper, path_numbers, reversed_order, rising_numbers, rising_paths, word_of_order,
)
from underwords.ratio.flags import far_count, far_flag, first_flag, flag_count, is_flag, position
from underwords.ratio.rs import r_by_paths, r_poly, r_row
from underwords.rows.rows import corner, is_corner, is_pattern_places, pattern_places, word_of, word_of_signed
from underwords.rows.tables import all_tables, bumped, is_table, row_of_tables
from underwords.sheaf.webs import is_section, led_row, makers, section_number, web_ties
from underwords.text.texts import write
from underwords.under.intervals import covers_of, interval, ladder_number, middle_pair, moebius, numbers
from underwords.under.lots import Lot, is_lot_likeness, lot_likeness, lot_of
from underwords.under.under import all_places, is_under, is_under_paper, members_under, under_paper

LOT = Lot((0, 1), ((0, 1),))
ORDER = mirror_row(FOUR, longest_member(FOUR))
GOLDS = (Gold(1), Gold(0), Gold(2))
CELL = ((0,), (1, 0), (2, 1, 0))
CUP = (1, 0, 3, 2)
ODD = [None, True, False, 10 ** 99, -10 ** 60, "", "word", " \t\n", (None,), (True,), (0, False), ("0",), [], [0], [(0,)], {},
       {(0,): 1}, {0: (1,)}, ((((((((),),),),),),),), (10 ** 60,), (3,), (-1,), Gold(0), Poly((1,)), (Gold(1),), (0,) * 41]

# Each kind of argument: values that are none, the error, and whether it keeps the value.
KINDS = {
    "system": ([*ODD, 3, (), LOT], "InvalidSystem", False),
    "word": ([*ODD, FOUR, LOT, 0, ((),), ((0,),)], "InvalidWord", False),
    "mirror": ([*ODD, FOUR, LOT, 0, (), (0, 1), (0, 0)], "InvalidMirror", False),
    "lot": ([*ODD, FOUR, LOT, 0, ((0, 1),), ((0,), (0,)), ((3,),)], "InvalidMirror", False),
    "row": ([*ODD, FOUR, LOT, (), (0, 0), (0, 0, 0, 0), (0, 0, None), (0, 0, True), (0, 0, Poly((1,)))], "InvalidOperation", False),
    "size": ([*ODD, FOUR, LOT, -1, 41, ()], "InvalidNumber", True),
    "order": ([*ODD, FOUR, 0, ()], "InvalidLot", False),
    "mirrors": ([*ODD, FOUR, LOT, 0, (), ORDER[1:], ORDER[:1] * 6, list(ORDER), ORDER[:5] + ((3,),)], "InvalidOrder", False),
    "rule": ([*ODD, FOUR, LOT, 0, (), ORDER[1:], ORDER[1:2] + ORDER[:1] + ORDER[2:], list(ORDER)], "InvalidOrder", False),
    "letter": ([*ODD, FOUR, LOT, 3, -1, ()], "InvalidNumber", True),
    "spot": ([*ODD, FOUR, LOT, 2, -1, ()], "InvalidNumber", True),
    "prime": ([*ODD, FOUR, 1, 4, ()], "InvalidNumber", True),
    "small": ([*ODD, FOUR, 0, 5, ()], "InvalidNumber", True),
    "degree": ([*ODD, FOUR, -1, 4, ()], "InvalidNumber", True),
    "flag": ([*ODD, FOUR, 0, ((1, 1), (1, 0)), ((1, 0), (0, 0))], "InvalidOperation", False),
    "four": ([*ODD, FOUR, 0, (), (1, 1), (2, 3), (1, 2, 3, 4, 5)], "InvalidRow", False),
    "row of integers": ([*ODD, FOUR, 0, (), (1,), (1, 1), (1, -2), (1, 2, 3, 4, 5, 6)], "InvalidRow", False),
    "signed row": ([*ODD, FOUR, 0, (), (1,), (1, -1), (1, 2, 3, 4)], "InvalidRow", False),
    "any row": ([*ODD, FOUR, 0, (), (1,), (1, -1), (1, 2, 3, -4)], "InvalidRow", False),
    "mask": ([*ODD, FOUR, 0, (), (0,), (0, 2), (0, 0, 0)], "InvalidOperation", False),
    "golds": ([*ODD, FOUR, 0, (), (1, 0, 2), GOLDS[1:], list(GOLDS)], "InvalidOperation", False),
    "matching": ([*ODD, FOUR, 0, (), (0, 1), (1, 1)], "InvalidOperation", False),
    "table": ([*ODD, FOUR, 0, (), ((1,),), ((2, 1),), ((1, 2), (3,)), ((1, 3),), [(1, 2)]], "InvalidRow", False),
    "places": ([*ODD, FOUR, 0, 1, 6, -2, ()], "InvalidNumber", True),
    "diagram": ([*ODD, FOUR, 0, (), (3, 2, 1, 0), (1, 0), (1, 0, 2, 3), (1, 0, 3, 2, 5, 4), list(CUP)], "InvalidRow", False),
    "word of two": ([*[value for value in ODD if value != ()], (1,), (0, 1), FOUR, 0], "InvalidWord", False),
    "cell": ([*ODD, FOUR, 0, (), ((0,),), CELL[::-1], list(CELL), ((0,), (1, 0), (2, 1, False))], "InvalidOperation", False),
    "letters": ([*[value for value in ODD if value != ()], FOUR, LOT, 0, (1, 0), (0, 0), (0, 1, 3)], "InvalidOperation", False),
    "ring": ([*ODD, FOUR, 0, 1, 4, -2, ()], "InvalidNumber", True),
    "ring word": ([*ODD, FOUR, 0, (2,), ((0,),)], "InvalidWord", False),
    "window": ([*ODD, FOUR, 0, (), (1, 1), (1, 2, 3), (2, 2), (-41, 44), (0, 2), [1, 2]], "InvalidRow", False),
    "spot of two": ([*ODD, FOUR, 0, 3, -1, ()], "InvalidNumber", True),
    "least": ([*ODD, FOUR, -1001, 1001, ()], "InvalidNumber", True),
    "text": ([*[value for value in ODD if not isinstance(value, Poly)], 0, (), Desk(FOUR)], "InvalidOperation", False),
    "single": ([*ODD, FOUR, 1, -1, ()], "InvalidNumber", True),
    "element": ([*ODD, FOUR, LOT, 0, Element, {(): Poly((1,))}], "InvalidElement", False),
    "entries": ([*[value for value in ODD if value != {}], FOUR, LOT, 0, (), {(0,): LOT}], "InvalidElement", False),
}
CALLS = [
    (normal, ("system", FOUR), ("word", (0, 1))), (length, ("system", FOUR), ("word", (0, 1))),
    (is_shortest, ("system", FOUR), (None, (0, 1))), (product, ("system", FOUR), ("word", (0,)), ("word", (1,))),
    (inverse, ("system", FOUR), ("word", ())), (left_letters, ("system", FOUR), ("word", (0,))),
    (right_letters, ("system", FOUR), ("word", (0,))), (shortest_words, ("system", FOUR), ("word", (0, 2))),
    (members, ("system", FOUR)), (of_length, ("system", FOUR), ("size", 2)),
    (likeness, ("system", FOUR), ("word", (0,)), ("word", (1,))),
    (is_likeness, ("system", FOUR), ("word", (0,)), ("word", (1,)), (None, ("unlike", 0))),
    (is_mirror, ("system", FOUR), (None, (0,))), (mirrors, ("system", FOUR)), (root_of, ("system", FOUR), ("mirror", (0, 1, 0))),
    (mirror_of, ("system", FOUR), ("row", (1, 1, 0))), (led_root, ("system", FOUR), ("word", (0,)), ("row", (1, 1, Gold(2, 3)))),
    (inversions, ("system", FOUR), ("word", (0, 1))), (lot_paper, ("system", FOUR), ("lot", ((0,), (1,)))),
    (is_lot_paper, ("system", FOUR), ("lot", ((0,), (1,))), (None, ("member", (0,)))),
    (is_under, ("system", FOUR), ("word", (0,)), ("word", (1,))), (under_paper, ("system", FOUR), ("word", (0,)), ("word", (1,))),
    (is_under_paper, ("system", FOUR), ("word", (0,)), ("word", (1,)), (None, ("places", ()))),
    (all_places, ("system", FOUR), ("word", (0,)), ("word", (1, 0))), (members_under, ("system", FOUR), ("word", (1, 0))),
    (interval, ("system", FOUR), ("word", (0,)), ("word", (1, 0))), (numbers, ("system", FOUR), ("word", (1, 0))),
    (moebius, ("system", FOUR), ("word", (0,)), ("word", (1, 0))), (covers_of, ("system", FOUR), ("word", (1, 0))),
    (ladder_number, ("system", FOUR), ("word", (0,)), ("word", (1, 0))),
    (middle_pair, ("system", FOUR), ("word", ()), ("word", (1, 0))), (lot_of, ("system", FOUR), ("word", (1, 0))),
    (lot_likeness, ("order", LOT), ("order", LOT)), (is_lot_likeness, ("order", LOT), ("order", LOT), (None, (0, 1))),
    (mirror_row, ("system", FOUR), ("word", (0, 1))), (longest_member, ("system", FOUR)),
    (is_mirror_order, ("system", FOUR), (None, ORDER)), (order_paper, ("system", FOUR), ("mirrors", ORDER)),
    (is_order_paper, ("system", FOUR), ("mirrors", ORDER), (None, ("word", (0, 1, 0, 2, 1, 0)))),
    (word_of_order, ("system", FOUR), ("rule", ORDER)), (reversed_order, ("system", FOUR), ("rule", ORDER)),
    (moved_order, ("system", FOUR), ("rule", ORDER)),
    (rising_paths, ("system", FOUR), ("rule", ORDER), ("word", ()), ("word", (0,))),
    (longest_rising, ("system", FOUR), ("rule", ORDER), ("word", ()), ("word", (0,))),
    (is_rising, ("system", FOUR), ("rule", ORDER), ("word", ()), ("word", (0,)), (None, ((0,),))),
    (rising_numbers, ("system", FOUR), ("rule", ORDER), ("word", ()), ("word", (0,))),
    (path_numbers, ("system", FOUR), ("word", ()), ("word", (0,))), (least_steps, ("system", FOUR), ("word", ()), ("word", (0,))),
    (r_poly, ("system", FOUR), ("word", ()), ("word", (0,))), (r_row, ("system", FOUR), ("word", (0,))),
    (r_by_paths, ("system", FOUR), ("rule", ORDER), ("word", ()), ("word", (0,))),
    (flag_count, ("prime", 3), ("small", 4)), (first_flag, ("prime", 3), ("small", 4)), (far_flag, ("prime", 3), ("small", 4)),
    (is_flag, ("prime", 3), (None, ((1, 0), (0, 1)))), (position, ("prime", 2), ("flag", ((1, 0), (0, 1))), ("flag", ((0, 1), (1, 0)))),
    (far_count, ("prime", 2), ("four", (2, 1)), ("four", (1, 2))),
    (Element, ("system", FOUR), ("entries", {(0,): Poly((1,))})), (t_element, ("system", FOUR), ("word", (0, 1))),
    (unit_element, ("system", FOUR)), (letter_element, ("system", FOUR), ("letter", 2)), (back_of, ("system", FOUR), ("word", (0, 1))),
    (product_along, ("system", FOUR), ("word", (0, 0))), (p_poly, ("system", FOUR), ("word", (0,)), ("word", (0, 1))),
    (p_row, ("system", FOUR), ("word", (0, 1))), (p_by_bar, ("system", FOUR), ("word", (0, 1))),
    (mu, ("system", FOUR), ("word", (0,)), ("word", (0, 1))), (c_element, ("system", FOUR), ("word", (0, 1))),
    (matching, ("order", LOT)), (all_matchings, ("order", LOT)), (is_matching, ("order", LOT), (None, (1, 0))),
    (letter_matching, ("system", FOUR), ("word", (0,)), ("letter", 0)), (r_of_lot, ("order", LOT), ("spot", 0), ("spot", 1)),
    (p_of_lot, ("order", LOT), ("spot", 0), ("spot", 1)), (r_by_matching_of_lot, ("order", LOT), ("matching", (1, 0)), ("spot", 1)),
    (masks, ("system", FOUR), ("word", (0, 1)), ("word", ())), (first_mask, ("system", FOUR), ("word", (0, 1)), ("word", ())),
    (made_by, ("system", FOUR), ("word", (0, 1)), ("mask", (0, 1))), (defect, ("system", FOUR), ("word", (0, 1)), ("mask", (0, 1))),
    (mask_poly, ("system", FOUR), ("word", (0, 1)), ("word", ())), (mask_row, ("system", FOUR), ("word", (0, 1))),
    (letters_product, ("system", FOUR), ("word", (0, 1))), (strict_masks, ("system", FOUR), ("word", (0, 1)), ("word", ())),
    (r_by_masks, ("system", FOUR), ("word", (0, 1)), ("word", ())), (is_tight, ("system", FOUR), ("word", (0, 1))),
    (tight_paper, ("system", FOUR), ("word", (0, 1))), (is_tight_paper, ("system", FOUR), ("word", (0, 1)), (None, ("tight",))),
    (web_ties, ("system", FOUR), ("word", (0, 1))), (makers, ("system", FOUR), ("word", (0, 1))),
    (section_number, ("system", FOUR), ("word", (0, 1)), ("degree", 3)), (led_row, ("system", FOUR), ("word", (0,)), ("golds", GOLDS)),
    (is_section, ("system", FOUR), ("word", ()), (None, {(): GOLDS})),
    (word_of, ("row of integers", (2, 1))), (word_of_signed, ("signed row", (2, -1))),
    (corner, ("any row", (2, 1)), ("any row", (1, -2))), (is_corner, ("any row", (2, 1)), ("any row", (1, 2)), (None, (1, 2))),
    (pattern_places, ("row of integers", (1, 2)), ("row of integers", (1, 2))),
    (is_pattern_places, ("row of integers", (1, 2)), ("row of integers", (1, 2)), (None, (0, 1))),
    (bumped, ("row of integers", (2, 1))), (row_of_tables, ("table", ((1, 2),)), ("table", ((1, 2),))), (is_table, (None, ((1, 2),))),
    (all_tables, ("places", 2)), (mirrors_at, ("system", FOUR), ("word", (0, 1)), ("word", ())), (is_smooth, ("system", FOUR), (None, (0, 1))),
    (smooth_paper, ("system", FOUR), ("word", (0, 1))), (is_smooth_paper, ("system", FOUR), ("word", (0, 1)), (None, ("smooth", (1, 2, 1)))),
    (worst_members, ("system", FOUR), ("word", (0, 1))), (row_paper, ("row of integers", (2, 1))),
    (is_row_paper, ("row of integers", (2, 1)), (None, ("smooth", (1,)))),
    (c_product, ("system", FOUR), ("word", (0, 1)), ("word", (1,))), (mu_ties, ("system", FOUR)), (left_cells, ("system", FOUR)),
    (cell_table, ("system", FOUR), ("cell", CELL), ("letter", 1)), (greatest_power, ("system", FOUR), ("word", (0, 1))),
    (turned_poly, ("system", FOUR), ("word", (0,)), ("word", (0, 1))), (is_loose, ("system", FOUR), ("word", (0, 1))),
    (loose_paper, ("system", FOUR), ("word", (0, 1))), (is_loose_paper, ("system", FOUR), ("word", (0, 1)), (None, ("loose", ((0, 1),)))),
    (heap_of, ("system", FOUR), ("word", (0, 1))), (readings, ("system", FOUR), ("word", (0, 1))), (loose_members, ("system", FOUR)),
    (loose_of_length, ("system", FOUR), ("size", 2)), (is_diagram, ("places", 2), (None, CUP)), (all_diagrams, ("places", 2)),
    (letter_diagram, ("places", 2), ("single", 0)), (diagram_product, ("places", 2), ("diagram", CUP), ("diagram", CUP)),
    (diagram_of, ("places", 2), ("word of two", (0, 0))), (loose_of_diagram, ("places", 2), ("diagram", CUP)),
    (is_least, ("system", FOUR), ("word", (0, 1)), ("letters", (0, 2))), (least_in, ("system", FOUR), ("word", (0, 1)), ("letters", (0, 2))),
    (split, ("system", FOUR), ("word", (0, 1)), ("letters", (0, 2))), (coset, ("system", FOUR), ("word", (0, 1)), ("letters", (0, 2))),
    (greatest_in, ("system", FOUR), ("word", (0, 1)), ("letters", (0, 2))), (least_members, ("system", FOUR), ("letters", (0, 2))),
    (coset_r, ("system", FOUR), ("word", (0, 1)), ("word", (1,)), ("letters", (0, 2))),
    (coset_p, ("system", FOUR), ("word", (0, 1)), ("word", (1,)), ("letters", (0, 2))),
    (is_window, ("ring", 2), (None, (1, 2))), (window_length, ("ring", 2), ("window", (1, 2))), (window_of, ("ring", 2), ("ring word", (1,))),
    (word_of_window, ("ring", 2), ("window", (1, 2))), (window_product, ("ring", 2), ("window", (1, 2)), ("window", (2, 1))),
    (corner_number, ("ring", 2), ("window", (1, 2)), ("spot of two", 1), ("least", -1000)),
    (window_corner, ("ring", 2), ("window", (2, 1)), ("window", (1, 2))),
    (is_window_corner, ("ring", 2), ("window", (2, 1)), ("window", (1, 2)), (None, (1, 2))),
    (is_endless, ("system", FOUR)), (degrees, ("system", FOUR)), (greatest_length, ("system", FOUR)),
    (length_numbers, ("system", FOUR), ("size", 3)), (numbers_by_letters, ("system", FOUR), ("size", 3)),
    (least_numbers, ("system", FOUR), ("letters", (0, 2)), ("size", 3)), (Desk, ("system", FOUR)), (write, ("text", LOT)),
    (loose_image, ("element", t_element(FOUR, (0, 1)))), (loose_product, ("places", 2), ("word of two", (0,)), ("word of two", ())),
]
# Errors that are raised only if no other one applies, also none of a later argument.
LATE = ("cell",)


class ArgumentsTest(Case):
    def refused(self, act, kind, value, given):
        _, name, keeps = KINDS[kind]
        self.refuses(name, value if keeps else None, act, *given)

    def test_each_right_call(self):
        for act, *parameters in CALLS:
            self.assertIsNone(error_of(act, *[value for _, value in parameters])[0])

    def test_each_wrong_argument_alone(self):
        for act, *parameters in CALLS:
            right = [value for _, value in parameters]
            for at, (kind, _) in enumerate(parameters):
                for value in KINDS[kind][0] if kind else ():
                    self.refused(act, kind, value, [*right[:at], value, *right[at + 1:]])

    def test_the_first_of_two_wrong_arguments(self):
        for act, *parameters in CALLS:
            right = [value for _, value in parameters]
            for (at, (kind, _)), (later, (other, _)) in itertools.combinations(enumerate(parameters), 2):
                for value in KINDS[kind][0] if kind else ():
                    for worse in KINDS[other][0][::3] if other else (None, 10 ** 99):
                        given = [*right[:at], value, *right[at + 1:later], worse, *right[later + 1:]]
                        self.refused(act, other if kind in LATE else kind, worse if kind in LATE else value, given)

    def test_values_that_are_judged(self):
        for act, *parameters in CALLS:
            if parameters[-1][0] is None:
                right = [value for _, value in parameters[:-1]]
                self.assertIs(act(*right, parameters[-1][1]), act not in (is_lot_paper, is_under_paper), act)
                for value in [*ODD, FOUR, LOT, act, (act,), ("path", ODD), ("bar", ODD, ODD), ("plane", 1, 2, 3), 10 ** 5000, Desk(FOUR)]:
                    self.assertIs(act(*right, value), False, (act, value))
                self.assertIs(act(*right, ()), act in (is_shortest, is_smooth), act)

    def test_words_are_those_of_the_system(self):
        for word in ((2,), (0, 2)):
            self.refuses("InvalidWord", None, normal, System(2), word)
        self.assertEqual(normal(System(3), (2, 0)), (0, 2))

    def test_errors_behind_then_are_raised_last(self):
        long = (0, 1, 2) * 13
        for act, given, name, kept in (
                (product, (RING, long, long), "TooMany", 40), (product, (RING, long, (3,)), "InvalidWord", None),
                (shortest_words, (3, long), "InvalidSystem", None), (members, (RING,), "TooMany", 120),
                (of_length, (System(4, ((0, 1, 0), (0, 2, 0), (0, 3, 0), (1, 2, 0), (1, 3, 0), (2, 3, 0))), 41), "InvalidNumber", 41),
                (likeness, (RING, long, None), "InvalidWord", None), (likeness, (RING, long, ()), "TooMany", 20),
                (mirror_of, (RING, ()), "InvalidOperation", None), (mirror_of, (RING, (0, 0, 0)), "TooMany", 120),
                (inversions, (System.ring(2), (0, 1) * 20), "TooMany", 40),
                (all_places, (RING, long, (0, 0)), "InvalidOperation", None), (all_places, (RING, None, (0, 0)), "InvalidWord", None),
                (all_places, (System.ring(2), (0, 1, 0, 1), (0, 1) * 20), "TooMany", 2000),
                (members_under, (RING, long), "TooMany", 120), (interval, (RING, None, long), "InvalidWord", None),
                (interval, (RING, long, long), "TooMany", 120), (middle_pair, (RING, (), long), "InvalidOperation", None),
                (middle_pair, (RING, long[2:], long), "TooMany", 120), (lot_of, (RING, long), "TooMany", 120)):
            self.refuses(name, kept, act, *given)

    def test_arguments_are_not_changed_and_results_are_equal(self):
        for act, *parameters in CALLS:
            given = [value for _, value in parameters]
            before = [repr(value) if not isinstance(value, (System, Lot)) else str(value) for value in given]
            first, second = act(*given), act(*given)
            self.assertEqual(first, second)
            self.assertEqual([repr(value) if not isinstance(value, (System, Lot)) else str(value) for value in given], before)
        self.assertEqual(root_of(TWENTY, (0, 1, 0)), root_of(TWENTY, (0, 1, 0)))

    def test_results_are_tuples(self):
        for act in (shortest_words, inversions, members_under, covers_of, left_letters):
            self.assertIsInstance(act(FOUR, (0, 1, 0)), tuple)
        self.assertTrue(all(isinstance(word, tuple) for word in shortest_words(FOUR, (0, 1, 0))))
        self.assertIsInstance(likeness(FOUR, (0, 0), ())[1], tuple)


if __name__ == "__main__":
    unittest.main()
