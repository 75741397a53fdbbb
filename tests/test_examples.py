"""The examples of the document, as they stand there."""

import unittest

from underwords import errors
from underwords.algebra import elements
from underwords.base.golds import Gold
from underwords.base.polys import Poly
from underwords.cells import cells
from underwords.cosets import cosets
from underwords.desk import desk
from underwords.endless import numbers, windows
from underwords.groups import mirrors, words
from underwords.groups.systems import System
from underwords.loose import diagrams, loose
from underwords.ones import masks, matchings, polys, smooth
from underwords.paths import orders
from underwords.ratio import flags, rs
from underwords.rows import rows, tables
from underwords.sheaf import webs
from underwords.text import texts
from underwords.under import intervals, lots, under

SYSTEMS = """
>>> FOUR, FIVE, SQUARE, TWENTY, RING = System.rows(4), System.rows(5), System.signed(2), System.twenty(), System.ring(3)
"""
GOLDS_AND_POLYS = """
>>> [str(Gold(1, 1) * Gold(0, 1)), Gold(-1, 1).sense, Gold(5, -3).sense, Gold(0, 1).norm, Gold(2, 0).is_less(Gold(0, 1)), Gold(0, 1).is_less(Gold(2)), bool(Gold(0))]
['1 + 2 s', 1, 1, -1, False, True, False]
>>> poly = Poly((0, 3, 0, -1, 0), -2)
>>> [str(poly), poly.coefficients, poly.lowest, poly.degree, str(poly.turned()), poly.at(0), len(poly), str(poly.moved(1) * Poly((1, 1)))]
['3 q^-1 - q', (3, 0, -1), -1, 1, '-q^-1 + 3 q', 0, 3, '3 + 3 q - q^2 - q^3']
>>> [str(Poly((1, 1)).raised(3)), Poly((1, 1)).raised(3).value_at(2), Poly((1, 2, 1)).is_alike_turned, Poly.read("1 - 4 q^5") == Poly((1, 0, 0, 0, 0, -4))]
['1 + 3 q + 3 q^2 + q^3', 27, True, True]
>>> poly.value_at(2)
raises Refused(('below',))
"""
WORDS = """
>>> [str(TWENTY), str(System(2)), FOUR.bond_of(2, 1), RING.bonds, SQUARE == System.polygon(4)]
['3 letters, 5 of 0 1, 3 of 1 2', '2 letters', 3, ((0, 1, 3), (0, 2, 3), (1, 2, 3)), True]
>>> [normal(FOUR, (2, 0)), normal(FOUR, (1, 0, 1, 1)), length(SQUARE, (0, 1, 0, 1, 0)), is_shortest(FOUR, (1, 2, 1)), is_shortest(FOUR, (1, 1)), product(FOUR, (0, 1), (0, 1)), inverse(TWENTY, (0, 1, 2))]
[(0, 2), (1, 0), 3, True, False, (1, 0), (2, 1, 0)]
>>> [left_letters(FOUR, (0, 1, 0)), right_letters(FOUR, (0, 2, 1)), shortest_words(FOUR, (0, 2, 1)), shortest_words(FOUR, (0, 1, 0)), len(members(FOUR)), len(members(TWENTY)), of_length(RING, 1), len(of_length(RING, 3))]
[(0, 1), (1,), ((0, 2, 1), (2, 0, 1)), ((0, 1, 0), (1, 0, 1)), 24, 120, ((0,), (1,), (2,)), 9]
>>> [is_likeness(FOUR, (0, 1, 0), (1, 0, 1), ("path", ((0, 1, 0), (1, 0, 1)))), is_likeness(FOUR, (0, 0), (), ("path", ((0, 0), ()))), likeness(FOUR, (0,), (1,))[0], is_likeness(FOUR, (0,), (0, 1), ("unlike", 2))]
[True, True, 'unlike', True]
>>> members(RING)
raises TooMany(120)
"""
MIRRORS = """
>>> [mirrors(FOUR), len(mirrors(TWENTY)), is_mirror(FOUR, (1, 0, 1, 1, 1)), is_mirror(FOUR, (0, 1)), is_mirror(FOUR, ())]
[((0,), (1,), (2,), (0, 1, 0), (1, 2, 1), (0, 1, 2, 1, 0)), 15, True, False, False]
>>> [[str(number) for number in root_of(FOUR, (0, 1, 0))], mirror_of(FOUR, (1, 1, 1)), [str(number) for number in led_root(FOUR, (0, 1), (0, 1, 0))]]
[['1', '1', '0'], (0, 1, 2, 1, 0), ['-1', '-1', '0']]
>>> [inversions(FOUR, (1, 0)), lot_paper(FOUR, ((0,), (1, 0, 1)))]
[((1,), (0, 1, 0)), ('member', (0, 1))]
>>> [lot_paper(FOUR, ((0, 1, 0),))[0], is_lot_paper(FOUR, ((0, 1, 0),), ("plane", (0,), (1,), (1, 0, 1))), is_lot_paper(FOUR, ((0,), (1,)), ("plane", (1,), (0,), (0, 1, 0))), is_lot_paper(FOUR, ((0,), (2,)), ("member", (2, 0)))]
['plane', True, True, True]
>>> mirror_of(FOUR, (1, 0, 1))
raises Refused(('root',))
"""
UNDER = """
>>> [is_under(FOUR, (1,), (0, 1)), is_under(FOUR, (0, 1), (1, 0, 2)), is_under(FOUR, (1, 0, 1), (0, 1, 0)), is_under(RING, (0, 0), (2,))]
[True, False, True, True]
>>> [under_paper(FOUR, (0, 2), (1, 0, 2, 1)), under_paper(FOUR, (0, 1, 2), (1, 0, 2, 1))[0], is_under_paper(FOUR, (0, 1, 2), (1, 0, 2, 1), ("bar", (1, 2, 0, 1), (2,)))]
[('places', (1, 2)), 'bar', True]
>>> [all_places(FOUR, (1,), (1, 0, 2, 1)), all_places(FOUR, (), (2, 1)), all_places(FOUR, (0, 1), (2, 1)), len(members_under(FOUR, (1, 0, 2, 1)))]
[((0,), (3,)), ((),), (), 14]
>>> members_under(SQUARE, (0, 1, 0))
((), (0,), (1,), (0, 1), (1, 0), (0, 1, 0))
>>> all_places(FOUR, (1,), (1, 1))
raises InvalidOperation
"""
INTERVALS_AND_LOTS = """
>>> [interval(FOUR, (0,), (0, 1, 0)), numbers(FOUR, (1, 0, 2, 1)), moebius(FOUR, (1,), (1, 0, 2, 1)), moebius(FOUR, (2,), (0, 1))]
[((0,), (0, 1), (1, 0), (0, 1, 0)), (1, 3, 5, 4, 1), -1, 0]
>>> [covers_of(FOUR, (0, 1, 0)), ladder_number(FOUR, (), (0, 1, 0)), middle_pair(FOUR, (0,), (0, 1, 0))]
[((0, 1), (1, 0)), 4, ((0, 1), (1, 0))]
>>> pair = lot_of(FOUR, (0, 1))
>>> [pair == Lot((0, 1, 1, 2), ((0, 1), (0, 2), (1, 3), (2, 3))), pair == lot_of(FOUR, (0, 2)), str(pair), pair.below(3), pair.leads(1, 2)]
[True, True, 'lot of 4 elements, 4 covers', (1, 2), False]
>>> [is_lot_likeness(pair, pair, (0, 2, 1, 3)), lot_of(FOUR, (0, 1, 0)).between(1, 5) == pair]
[True, True]
>>> BEND, TURN = (0, 1, 0, 2, 1), (0, 1, 2, 1, 0)
>>> THREE = System.signed(3)
>>> [numbers(THREE, BEND), numbers(THREE, TURN), lot_likeness(lot_of(THREE, BEND), lot_of(THREE, TURN))]
[(1, 3, 5, 6, 4, 1), (1, 3, 5, 6, 4, 1), None]
"""
ORDERS = """
>>> THREE, ORDER = System.rows(3), ((0,), (0, 1, 0), (1,))
>>> [mirror_row(SQUARE, (0, 1, 0, 1)), longest_member(THREE), is_mirror_order(THREE, ORDER), is_mirror_order(THREE, ((0,), (1,), (0, 1, 0)))]
[((0,), (0, 1, 0), (1, 0, 1), (1,)), (0, 1, 0), True, False]
>>> [rising_paths(THREE, ORDER, (), (0, 1, 0)), longest_rising(THREE, ORDER, (1,), (0, 1, 0)), longest_rising(THREE, ORDER, (1,), (0,))]
[(((0,), (0, 1, 0), (1,)), ((0, 1, 0),)), ((0,), (1,)), None]
>>> [rising_numbers(THREE, ORDER, (), (0, 1, 0)), path_numbers(THREE, (), (0, 1, 0)), least_steps(FOUR, (1,), (0, 1, 2, 1, 0)), moved_order(THREE, ORDER)]
[{1: 1, 3: 1}, {1: 1, 3: 4}, 4, ((1,), (0, 1, 0), (0,))]
>>> [word_of_order(THREE, moved_order(THREE, ORDER)), is_order_paper(THREE, ((0,), (1,), (0, 1, 0)), ("plane", (0,), (1,), (0, 1, 0)))]
[(1, 0, 1), True]
>>> longest_member(RING)
raises TooMany(120)
"""
R_AND_FLAGS = """
>>> [str(r_poly(FOUR, (), (0, 1, 0))), str(r_poly(FOUR, (0,), (0, 1, 0))), str(r_poly(FOUR, (), (1, 0, 2, 1))), bool(r_poly(FOUR, (0, 1), (1, 0)))]
['-1 + 2 q - 2 q^2 + q^3', '1 - 2 q + q^2', '1 - 3 q + 4 q^2 - 3 q^3 + q^4', False]
>>> [list(r_row(FOUR, (0, 1))), len(r_row(TWENTY, (0, 1, 0, 1, 0)))]
[[(), (0,), (1,), (0, 1)], 10]
>>> [flag_count(2, 3), flag_count(3, 3), flag_count(2, 4), len(list(all_flags(2, 2))), is_flag(2, ((0, 1), (1, 0))), is_flag(2, ((0, 1), (1, 1)))]
[21, 52, 315, 3, True, False]
>>> [position(2, far_flag(2, 3), first_flag(2, 3)), far_count(2, (3, 2, 1), (1, 2, 3)), far_count(3, (3, 2, 1), (1, 2, 3))]
[(3, 2, 1), 3, 14]
>>> r_poly(RING, (), (0, 1, 3))
raises InvalidWord
"""
ALGEBRA = """
>>> ONE, Q, LESS = Poly((1,)), Poly((0, 1)), Poly((-1, 1))
>>> ZERO, NEXT = letter_element(FOUR, 0), letter_element(FOUR, 1)
>>> [(ZERO * ZERO).entries == {(): Q, (0,): LESS}, ZERO * NEXT == t_element(FOUR, (0, 1)), ZERO * NEXT == NEXT * ZERO, len(ZERO * NEXT * ZERO)]
[True, True, False, 1]
>>> [back_of(FOUR, (0,)).entries == {(): Poly((1, -1), -1), (0,): Poly((1,), -1)}, ZERO.bar() == back_of(FOUR, (0,)), ZERO.bar().bar() == ZERO]
[True, True, True]
>>> [product_along(FOUR, (0, 1, 0)) == product_along(FOUR, (1, 0, 1)), (ZERO * NEXT).undone() == NEXT * ZERO, (ZERO * ZERO).poly_of(()) == Q]
[True, True, True]
>>> Element(FOUR, {(0, 0, 1): ONE, (1,): ONE, (2,): Poly(())}).entries == {(1,): Poly((2,))}
True
>>> letter_element(FOUR, 3)
raises InvalidNumber(3)
"""
P = """
>>> [str(p_poly(FOUR, (1,), (1, 0, 2, 1))), str(p_poly(FOUR, (0,), (1, 0, 2, 1))), str(p_poly(FOUR, (), (0, 1, 2, 1, 0))), p_poly(FOUR, (0, 1), (2, 1)) == Poly(())]
['1 + q', '1', '1 + q', True]
>>> [mu(FOUR, (1,), (1, 0, 2, 1)), mu(FOUR, (0, 2), (0, 1, 2, 1, 0)), mu(FOUR, (0,), (0, 1, 2)), mu(FOUR, (2,), (2, 1))]
[1, 1, 0, 1]
>>> ROW = p_row(FOUR, (1, 0, 2, 1))
>>> [len(ROW), [word for word in ROW if str(ROW[word]) != "1"], ROW == p_by_bar(FOUR, (1, 0, 2, 1))]
[14, [(), (1,)], True]
"""
MATCHINGS = """
>>> lot = lot_of(SQUARE, (0, 1, 0))
>>> all_matchings(lot)
((1, 0, 3, 2, 5, 4), (1, 0, 4, 5, 2, 3), (2, 3, 0, 1, 5, 4), (2, 4, 0, 5, 1, 3))
>>> [letter_matching(SQUARE, (0, 1, 0), 0), letter_matching(SQUARE, (0, 1, 0), 0, right=True), is_matching(lot, (2, 3, 0, 1, 5, 4)), is_matching(lot, (1, 0, 3, 2, 4, 5))]
[(1, 0, 3, 2, 5, 4), (1, 0, 4, 5, 2, 3), True, False]
>>> [str(r_of_lot(lot, 0, 5)), str(r_of_lot(lot, 1, 5)), str(p_of_lot(lot, 0, 5)), str(r_by_matching_of_lot(lot, (2, 3, 0, 1, 5, 4), 0))]
['-1 + 2 q - 2 q^2 + q^3', '1 - 2 q + q^2', '1', '-1 + 2 q - 2 q^2 + q^3']
>>> three = Lot((0, 1, 1, 1, 2), ((0, 1), (0, 2), (0, 3), (1, 4), (2, 4), (3, 4)))
>>> [matching(three), str(p_of_lot(lot_of(FOUR, (1, 0, 2, 1)), 0, 13))]
[None, '1 + q']
"""
MASKS = """
>>> THREE = System.rows(3)
>>> [masks(THREE, (0, 1, 0), (0,)), first_mask(THREE, (0, 1, 0), (0,)), str(mask_poly(THREE, (0, 1, 0), (0,))), str(mask_poly(THREE, (1, 0, 1), (0,)))]
[((0, 0, 1), (1, 0, 0)), (0, 0, 1), '1 + q', '1']
>>> [made_by(THREE, (0, 0, 1), (1, 1, 0)), defect(THREE, (0, 0, 1), (1, 1, 0)), strict_masks(THREE, (0, 1, 0), ())]
[(), 1, ((0, 0, 0), (1, 0, 1))]
>>> [str(r_by_masks(THREE, (0, 1, 0), ())), is_tight(THREE, (0, 1)), tight_paper(THREE, (0, 1, 0))[0], is_tight_paper(THREE, (0, 1, 0), ("mask", (1, 0, 1)))]
['-1 + 2 q - 2 q^2 + q^3', True, 'mask', False]
>>> [str(mask_poly(FOUR, (1, 0, 2, 1), (1,))), is_tight(FOUR, (1, 0, 2, 1)), is_tight(SQUARE, (0, 1, 0))]
['1 + q', True, False]
>>> defect(THREE, (0, 1), (1,))
raises InvalidOperation
"""
WEBS = """
>>> [len(web_ties(FOUR, (0, 1, 0))), web_ties(SQUARE, (0, 1)), len(web_ties(FOUR, (1, 0, 2, 1)))]
[9, (((), (0,), (0,)), ((), (1,), (1,)), ((0,), (0, 1), (0, 1, 0)), ((1,), (0, 1), (0,))), 29]
>>> told = makers(FOUR, (1, 0, 2, 1))
>>> [told[()].coefficients, told[(1,)].coefficients, [low for low in told if told[low] != Poly((1,))]]
[(1, 1), (1, 1), [(), (1,)]]
>>> [section_number(FOUR, (0, 1, 0), degree) for degree in (0, 1, 2)], section_number(TWENTY, (0, 1, 0, 1), 1)
([1, 5, 14], 5)
>>> row = (Gold(1), Gold(0), Gold(2))
>>> [led_row(FOUR, (0,), row) == (Gold(-1), Gold(0), Gold(2)), is_section(FOUR, (0,), {(): row, (0,): led_row(FOUR, (0,), row)}), is_section(FOUR, (0,), {(): row, (0,): (Gold(1), Gold(1), Gold(2))})]
[True, True, False]
>>> makers(RING, (0, 1, 2, 0, 1, 2, 0, 1))
raises TooMany(7)
"""
ROWS = """
>>> [row_of((0, 1), 3), word_of((2, 3, 1)), signed_row_of((0, 1, 0), 2), word_of_signed((-2, -1))]
[(2, 3, 1), (0, 1), (-2, -1), (0, 1, 0)]
>>> [corner((2, 1, 3), (1, 3, 2)), corner((1, 2, 3), (3, 2, 1)), corner((-1, 2), (2, 1)), corner((2, 1), (-1, 2))]
[(1, 2), None, (2, 1), (1, -1)]
>>> [pattern_places((4, 5, 3, 1, 2), (3, 4, 1, 2)), is_pattern_places((4, 2, 3, 1), (2, 1), (0, 2))]
[(0, 1, 3, 4), True]
>>> [bumped((2, 3, 1)), row_of_tables(((1, 3), (2,)), ((1, 2), (3,))), len(all_tables(5))]
[(((1, 3), (2,)), ((1, 2), (3,))), (2, 3, 1), 26]
>>> row_of((2,), 3)
raises InvalidWord
"""
SMOOTH = """
>>> [mirrors_at(FOUR, (1, 0, 2, 1), ()), mirrors_at(FOUR, (1, 0, 2, 1), (1,)), mirrors_at(FOUR, (1, 0, 2, 1), (0,)), is_smooth(FOUR, (1, 0, 2, 1)), is_smooth(FOUR, (0, 1, 0))]
[5, 5, 4, False, True]
>>> [smooth_paper(FOUR, (0, 1, 0)), is_smooth_paper(FOUR, (1, 0, 2, 1), ("mirrors", (1,), 5)), worst_members(FOUR, (1, 0, 2, 1)), worst_members(FOUR, (0, 1, 2, 1, 0)), worst_members(TWENTY, (0, 1, 0))]
[('smooth', (1, 2, 2, 1)), True, ((1,),), ((0, 2),), ()]
>>> [row_paper((4, 3, 2, 1)), row_paper((3, 4, 1, 2)), is_row_paper((4, 5, 3, 1, 2), ("pattern", (0, 1, 3, 4))), row_paper((1, 2))]
[('smooth', (1, 2, 3)), ('pattern', (0, 1, 2, 3)), True, ('smooth', ())]
>>> EIGHT = (0, 1, 0, 2, 1, 0, 1, 2)
>>> [is_smooth(System.signed(3), EIGHT), mirrors_at(System.signed(3), EIGHT, ())]
[False, 8]
>>> mirrors_at(FOUR, (0, 1), (2,))
raises InvalidOperation
"""
CELLS = """
>>> THREE, TWICE = System.rows(3), Poly((1, 0, 1), -1)
>>> [c_product(THREE, (0,), (0,)) == {(0,): TWICE}, c_product(THREE, (1,), (0, 1)) == {(1,): Poly((1,)), (0, 1, 0): Poly((1,))}, c_product(THREE, (1,), (0,)) == {(1, 0): Poly((1,))}]
[True, True, True]
>>> [left_cells(THREE), len(left_cells(FOUR)), [len(cell) for cell in left_cells(SQUARE)]]
[(((),), ((0,), (1, 0)), ((1,), (0, 1)), ((0, 1, 0),)), 10, [1, 3, 3, 1]]
>>> cell_table(THREE, ((0,), (1, 0)), 0) == ((TWICE, Poly((1,))), (Poly(()), Poly(())))
True
>>> [[greatest_power(THREE, word) for word in ((), (0,), (1, 0), (0, 1, 0))], greatest_power(SQUARE, (0, 1, 0)), greatest_power(SQUARE, (0, 1, 0, 1))]
[[0, 1, 1, 3], 1, 4]
"""
LOOSE = """
>>> [is_loose(FOUR, (1, 0, 2)), is_loose(FOUR, (0, 2, 1, 0)), loose_paper(FOUR, (1, 0, 2)), is_loose_paper(FOUR, (0, 2, 1, 0), ("run", (2, 0, 1, 0), 1))]
[True, False, ('loose', ((0, 1), (0, 2))), True]
>>> [heap_of(FOUR, (1, 2, 0)), readings(FOUR, (1, 2, 0)), len(loose_members(FIVE)), len(loose_of_length(RING, 3))]
[((1, 0, 2), ((0, 1), (0, 2))), ((0, 1, 2), (0, 2, 1)), 42, 6]
>>> [letter_diagram(4, 0), diagram_of(4, (0, 0)), diagram_of(4, (0, 1, 0))]
[(1, 0, 6, 7, 5, 4, 2, 3), ((1, 0, 6, 7, 5, 4, 2, 3), 1), ((1, 0, 6, 7, 5, 4, 2, 3), 0)]
>>> [loose_product(4, (0,), (0,)) == ((0,), Poly((1, 1))), loose_product(4, (0, 1), (0,)) == ((0,), Poly((0, 1)))]
[True, True]
>>> heap_of(FOUR, (0, 1, 0))
raises Refused(("run",))
"""
COSETS = """
>>> [split(FOUR, (0, 1, 0, 2), (0, 2)), is_least(FOUR, (0, 1), (0, 2)), greatest_in(FOUR, (), (0, 1))]
[((0, 1), (0, 2)), True, (0, 1, 0)]
>>> [coset(FOUR, (1,), (0, 2)), least_members(FOUR, (0, 2))]
[((1,), (1, 0), (1, 2), (1, 0, 2)), ((), (1,), (0, 1), (2, 1), (0, 2, 1), (1, 0, 2, 1))]
>>> [coset_p(FOUR, (), (1, 0, 2, 1), (0, 2)) == Poly((0, 1)), coset_p(FOUR, (), (1, 0, 2, 1), (0, 2), kind="-1") == Poly((1,)), coset_p(FOUR, (), (0, 1), (0,)) == Poly(())]
[True, True, True]
>>> [coset_p(FOUR, (), (0, 2, 1), (0, 2), kind="-1") == Poly((1, 1)), coset_p(FOUR, (), (0, 2, 1), (0, 2)) == Poly(()), coset_r(FOUR, (), (1,), (0,), kind="-1") == Poly((-1, 1))]
[True, True, True]
>>> greatest_in(System.ring(2), (), (0, 1))
raises TooMany(120)
"""
ENDLESS = """
>>> [window_of(3, (0,)), window_of(2, (1, 0)), word_of_window(3, (0, 2, 4)), window_length(3, (-2, 2, 6)), window_product(2, (0, 3), (2, 1))]
[(0, 2, 4), (-1, 4), (0,), 4, (3, 0)]
>>> [corner_number(2, (0, 3), 2, 3), corner_number(2, (2, 1), 2, 3), is_window_corner(2, (0, 3), (2, 1), (2, 3)), window_corner(3, (1, 2, 3), (0, 2, 4))]
[1, 0, True, None]
>>> [is_endless(RING), degrees(TWENTY), greatest_length(TWENTY), degrees(System(4, ((0, 1, 3), (2, 3, 6))))]
[True, (2, 6, 10), 15, (2, 2, 3, 6)]
>>> [length_numbers(RING, 5), numbers_by_letters(SQUARE, 5), least_numbers(RING, (0, 1), 5)]
[(1, 3, 6, 9, 12, 15), (1, 2, 2, 2, 1, 0), (1, 1, 2, 2, 3, 3)]
>>> degrees(RING)
raises Refused(('endless',))
"""
TEXTS_AND_DESK = """
>>> [write(SQUARE), write(Poly((2, 0, -1), -1)), write(t_element(SQUARE, (1, 0))), read("system 2\\n0 1 4") == SQUARE, read("poly 0") == Poly(())]
['system 2\\n0 1 4', 'poly -1 2 0 -1', 'system 2\\n0 1 4\\npart 1 0 : 0 1', True, True]
>>> read("system 2\\n0 1 4\\npart 1 1 : 0 1")
raises ParseError(2)
>>> desk = Desk(FOUR)
>>> desk.do(("put", "a", (1,)), ("put", "b", (1, 0, 2, 1)))
>>> [desk.say(saying) for saying in (("under", "a", "b"), ("length", "b", 4), ("poly", "a", "b", Poly((1, 1))))]
[None, None, None]
>>> [desk["b"], desk.is_true(("smooth", "b")), desk.past, str(desk)]
[(1, 0, 2, 1), False, 4, 'desk of 3 letters: 2 members, 3 sayings']
>>> desk.do(("behind", "b", 0))
raises Refused(('broken', ('length', 'b', 4)))
"""

TEXTS = (GOLDS_AND_POLYS, WORDS, MIRRORS, UNDER, INTERVALS_AND_LOTS, ORDERS, R_AND_FLAGS, ALGEBRA, P, MATCHINGS, MASKS, WEBS, ROWS,
         SMOOTH, CELLS, LOOSE, COSETS, ENDLESS, TEXTS_AND_DESK)


def named():
    """The names that the examples use."""
    found = {"System": System, "Gold": Gold, "Poly": Poly}
    for module in (words, mirrors, under, intervals, lots, orders, rs, flags, elements, polys, matchings, masks, webs, rows, tables,
                   smooth, cells, loose, diagrams, cosets, windows, numbers, texts, desk):
        found.update({name: value for name, value in vars(module).items() if not name.startswith("_")})
    return found


def rows_of(text):
    """The pairs of a row to be run and what stands below it, None if there is nothing."""
    pairs = []
    for line in text.strip().split("\n"):
        if line.startswith(">>> "):
            pairs.append([line[4:], None])
        else:
            pairs[-1][1] = line
    return pairs


class ExamplesTest(unittest.TestCase):
    def run_text(self, text):
        names = named()
        for row, wanted in rows_of(SYSTEMS) + rows_of(text):
            if wanted is None:
                exec(row, names)
            elif wanted.startswith("raises "):
                error = eval(wanted[7:], vars(errors))
                kind = error if isinstance(error, type) else error.__class__
                with self.assertRaises(kind) as caught:
                    eval(row, names)
                self.assertIs(caught.exception.__class__, kind)
                if not isinstance(error, type):
                    self.assertEqual(vars(caught.exception), vars(error))
            else:
                self.assertEqual(repr(eval(row, names)), wanted, row)

    def test_there_are_examples(self):
        self.assertEqual([len(rows_of(text)) for text in TEXTS], [5, 5, 5, 5, 8, 6, 5, 7, 4, 6, 6, 7, 5, 6, 5, 5, 5, 5, 7])

    def test_golds_and_polys(self):
        self.run_text(GOLDS_AND_POLYS)

    def test_words(self):
        self.run_text(WORDS)

    def test_mirrors(self):
        self.run_text(MIRRORS)

    def test_under(self):
        self.run_text(UNDER)

    def test_intervals_and_lots(self):
        self.run_text(INTERVALS_AND_LOTS)

    def test_orders(self):
        self.run_text(ORDERS)

    def test_r_and_flags(self):
        self.run_text(R_AND_FLAGS)

    def test_algebra(self):
        self.run_text(ALGEBRA)

    def test_p(self):
        self.run_text(P)

    def test_matchings(self):
        self.run_text(MATCHINGS)

    def test_masks(self):
        self.run_text(MASKS)

    def test_webs(self):
        self.run_text(WEBS)

    def test_rows_and_tables(self):
        self.run_text(ROWS)

    def test_smooth(self):
        self.run_text(SMOOTH)

    def test_cells(self):
        self.run_text(CELLS)

    def test_loose(self):
        self.run_text(LOOSE)

    def test_cosets(self):
        self.run_text(COSETS)

    def test_windows_and_numbers(self):
        self.run_text(ENDLESS)

    def test_texts_and_a_desk(self):
        self.run_text(TEXTS_AND_DESK)


if __name__ == "__main__":
    unittest.main()
