"""What many tests need: wrong values, and the errors of calls."""

import unittest

from underwords import errors
from underwords.base.golds import Gold
from underwords.groups.systems import System

KEPT = {"ParseError": "spot", "InvalidNumber": "given", "UnknownName": "wanted", "TooMany": "most",
        "Refused": "reason", "NothingToUndo": "steps"}

DEEP = (((((((0,),),),),),),)
# Values that are no system, word, mirror, lot, row or number with bounds, whatever the function.
WRONG = [
    None, True, False, -1, 10 ** 60, -10 ** 99, "", "0", "a\tb\n", [], [0], [(0,)], {}, {0: 1}, {(): ()}, (None,), (True,),
    (False, 0), ("0",), ([0],), ({},), (-1,), (10 ** 61,), (99,), DEEP, ((),), ((0,), 0), Gold(0), (Gold(1), None), System,
    (0,) * 41,
]


def error_of(call, *given, **named):
    """The name of the error that a call raises and what it keeps, or None and the result."""
    try:
        return None, call(*given, **named)
    except (errors.WordError, errors.InvalidNumber, errors.UnknownName, errors.TooMany, errors.Refused,
            errors.NothingToUndo) as error:
        name = error.__class__.__name__
        return name, getattr(error, KEPT[name]) if name in KEPT else None


def same(one, other):
    """Equal values in which True is not 1."""
    return one == other and repr(one) == repr(other)


class Case(unittest.TestCase):
    def refuses(self, name, kept, call, *given, **named):
        told = error_of(call, *given, **named)
        self.assertEqual(told[0], name, (call, given, named, told))
        if name in KEPT:
            self.assertTrue(same(told[1], kept), (call, given, named, told))
