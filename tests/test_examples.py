"""The examples of the document, as they stand there."""

import unittest

from underwords import errors
from underwords.base.golds import Gold
from underwords.base.polys import Poly
from underwords.groups import mirrors, words
from underwords.groups.systems import System
from underwords.under import intervals, lots, under

SYSTEMS = """
>>> FOUR, FIVE, SQUARE, TWENTY, RING = System.rows(4), System.rows(5), System.signed(2), System.twenty(), System.ring(3)
"""
GOLDS_AND_POLYS = """
>>> [str(Gold(1, 1) * Gold(0, 1)), Gold(-1, 1).sense, Gold(5, -3).sense, Gold(0, 1).norm, Gold(2, 0).is_less(Gold(0, 1)), Gold(0, 1).is_less(Gold(2)), bool(Gold(0))]
['1 + 2 s', 1, 1, -1, False, True, False]
>>> poly = Poly((0, 3, 0, -1, 0), -2)
>>> [str(poly), poly.coefficients, poly.lowest, poly.degree, str(poly.turned()), poly.at(0), len(poly), str(poly.moved(1) * Poly((1, 1)))]
['3 q^-1 - q', (3, 0, -1), -1, 1, '-q^-1 + 3 q', 0, 3, '3 + 3 q - q^2 - q^3']
>>> [str(Poly((1, 1)).raised(3)), Poly((1, 1)).raised(3).value_at(2), Poly((1, 2, 1)).is_alike_turned, Poly.read("1 - 4 q^5") == Poly((1, 0, 0, 0, 0, -4))]
['1 + 3 q + 3 q^2 + q^3', 27, True, True]
>>> poly.value_at(2)
raises Refused(('below',))
"""
WORDS = """
>>> [str(TWENTY), str(System(2)), FOUR.bond_of(2, 1), RING.bonds, SQUARE == System.polygon(4)]
['3 letters, 5 of 0 1, 3 of 1 2', '2 letters', 3, ((0, 1, 3), (0, 2, 3), (1, 2, 3)), True]
>>> [normal(FOUR, (2, 0)), normal(FOUR, (1, 0, 1, 1)), length(SQUARE, (0, 1, 0, 1, 0)), is_shortest(FOUR, (1, 2, 1)), is_shortest(FOUR, (1, 1)), product(FOUR, (0, 1), (0, 1)), inverse(TWENTY, (0, 1, 2))]
[(0, 2), (1, 0), 3, True, False, (1, 0), (2, 1, 0)]
>>> [left_letters(FOUR, (0, 1, 0)), right_letters(FOUR, (0, 2, 1)), shortest_words(FOUR, (0, 2, 1)), shortest_words(FOUR, (0, 1, 0)), len(members(FOUR)), len(members(TWENTY)), of_length(RING, 1), len(of_length(RING, 3))]
[(0, 1), (1,), ((0, 2, 1), (2, 0, 1)), ((0, 1, 0), (1, 0, 1)), 24, 120, ((0,), (1,), (2,)), 9]
>>> [is_likeness(FOUR, (0, 1, 0), (1, 0, 1), ("path", ((0, 1, 0), (1, 0, 1)))), is_likeness(FOUR, (0, 0), (), ("path", ((0, 0), ()))), likeness(FOUR, (0,), (1,))[0], is_likeness(FOUR, (0,), (0, 1), ("unlike", 2))]
[True, True, 'unlike', True]
>>> members(RING)
raises TooMany(120)
"""
MIRRORS = """
>>> [mirrors(FOUR), len(mirrors(TWENTY)), is_mirror(FOUR, (1, 0, 1, 1, 1)), is_mirror(FOUR, (0, 1)), is_mirror(FOUR, ())]
[((0,), (1,), (2,), (0, 1, 0), (1, 2, 1), (0, 1, 2, 1, 0)), 15, True, False, False]
>>> [[str(number) for number in root_of(FOUR, (0, 1, 0))], mirror_of(FOUR, (1, 1, 1)), [str(number) for number in led_root(FOUR, (0, 1), (0, 1, 0))]]
[['1', '1', '0'], (0, 1, 2, 1, 0), ['-1', '-1', '0']]
>>> [inversions(FOUR, (1, 0)), lot_paper(FOUR, ((0,), (1, 0, 1)))]
[((1,), (0, 1, 0)), ('member', (0, 1))]
>>> [lot_paper(FOUR, ((0, 1, 0),))[0], is_lot_paper(FOUR, ((0, 1, 0),), ("plane", (0,), (1,), (1, 0, 1))), is_lot_paper(FOUR, ((0,), (1,)), ("plane", (1,), (0,), (0, 1, 0))), is_lot_paper(FOUR, ((0,), (2,)), ("member", (2, 0)))]
['plane', True, True, True]
>>> mirror_of(FOUR, (1, 0, 1))
raises Refused(('root',))
"""
UNDER = """
>>> [is_under(FOUR, (1,), (0, 1)), is_under(FOUR, (0, 1), (1, 0, 2)), is_under(FOUR, (1, 0, 1), (0, 1, 0)), is_under(RING, (0, 0), (2,))]
[True, False, True, True]
>>> [under_paper(FOUR, (0, 2), (1, 0, 2, 1)), under_paper(FOUR, (0, 1, 2), (1, 0, 2, 1))[0], is_under_paper(FOUR, (0, 1, 2), (1, 0, 2, 1), ("bar", (1, 2, 0, 1), (2,)))]
[('places', (1, 2)), 'bar', True]
>>> [all_places(FOUR, (1,), (1, 0, 2, 1)), all_places(FOUR, (), (2, 1)), all_places(FOUR, (0, 1), (2, 1)), len(members_under(FOUR, (1, 0, 2, 1)))]
[((0,), (3,)), ((),), (), 14]
>>> members_under(SQUARE, (0, 1, 0))
((), (0,), (1,), (0, 1), (1, 0), (0, 1, 0))
>>> all_places(FOUR, (1,), (1, 1))
raises InvalidOperation
"""
INTERVALS_AND_LOTS = """
>>> [interval(FOUR, (0,), (0, 1, 0)), numbers(FOUR, (1, 0, 2, 1)), moebius(FOUR, (1,), (1, 0, 2, 1)), moebius(FOUR, (2,), (0, 1))]
[((0,), (0, 1), (1, 0), (0, 1, 0)), (1, 3, 5, 4, 1), -1, 0]
>>> [covers_of(FOUR, (0, 1, 0)), ladder_number(FOUR, (), (0, 1, 0)), middle_pair(FOUR, (0,), (0, 1, 0))]
[((0, 1), (1, 0)), 4, ((0, 1), (1, 0))]
>>> pair = lot_of(FOUR, (0, 1))
>>> [pair == Lot((0, 1, 1, 2), ((0, 1), (0, 2), (1, 3), (2, 3))), pair == lot_of(FOUR, (0, 2)), str(pair), pair.below(3), pair.leads(1, 2)]
[True, True, 'lot of 4 elements, 4 covers', (1, 2), False]
>>> [is_lot_likeness(pair, pair, (0, 2, 1, 3)), lot_of(FOUR, (0, 1, 0)).between(1, 5) == pair]
[True, True]
>>> BEND, TURN = (0, 1, 0, 2, 1), (0, 1, 2, 1, 0)
>>> THREE = System.signed(3)
>>> [numbers(THREE, BEND), numbers(THREE, TURN), lot_likeness(lot_of(THREE, BEND), lot_of(THREE, TURN))]
[(1, 3, 5, 6, 4, 1), (1, 3, 5, 6, 4, 1), None]
"""

TEXTS = (GOLDS_AND_POLYS, WORDS, MIRRORS, UNDER, INTERVALS_AND_LOTS)


def named():
    """The names that the examples use."""
    found = {"System": System, "Gold": Gold, "Poly": Poly}
    for module in (words, mirrors, under, intervals, lots):
        found.update({name: value for name, value in vars(module).items() if not name.startswith("_")})
    return found


def rows_of(text):
    """The pairs of a row to be run and what stands below it, None if there is nothing."""
    pairs = []
    for line in text.strip().split("\n"):
        if line.startswith(">>> "):
            pairs.append([line[4:], None])
        else:
            pairs[-1][1] = line
    return pairs


class ExamplesTest(unittest.TestCase):
    def run_text(self, text):
        names = named()
        for row, wanted in rows_of(SYSTEMS) + rows_of(text):
            if wanted is None:
                exec(row, names)
            elif wanted.startswith("raises "):
                error = eval(wanted[7:], vars(errors))
                kind = error if isinstance(error, type) else error.__class__
                with self.assertRaises(kind) as caught:
                    eval(row, names)
                self.assertIs(caught.exception.__class__, kind)
                if not isinstance(error, type):
                    self.assertEqual(vars(caught.exception), vars(error))
            else:
                self.assertEqual(repr(eval(row, names)), wanted, row)

    def test_there_are_examples(self):
        self.assertEqual([len(rows_of(text)) for text in TEXTS], [5, 5, 5, 5, 8])

    def test_golds_and_polys(self):
        self.run_text(GOLDS_AND_POLYS)

    def test_words(self):
        self.run_text(WORDS)

    def test_mirrors(self):
        self.run_text(MIRRORS)

    def test_under(self):
        self.run_text(UNDER)

    def test_intervals_and_lots(self):
        self.run_text(INTERVALS_AND_LOTS)


if __name__ == "__main__":
    unittest.main()
