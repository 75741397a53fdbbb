"""The errors of this package."""


class WordError(ValueError):
    """An argument that the package cannot take."""


class InvalidSystem(WordError):
    """No system, or bonds of none."""


class InvalidWord(WordError):
    """No word of the system."""


class InvalidMirror(WordError):
    """No mirror of the system, or no lot of mirrors."""


class InvalidPoly(WordError):
    """No poly, or integers of none."""


class InvalidElement(WordError):
    """No element of the algebra."""


class InvalidRow(WordError):
    """No row, signed row, table, window or diagram."""


class InvalidLot(WordError):
    """No lot as an order."""


class InvalidOrder(WordError):
    """No order of mirrors."""


class InvalidOperation(WordError):
    """Arguments that do not go together."""


class ParseError(WordError):
    """A text of which nothing can be read."""

    def __init__(self, spot):
        self.spot = spot


class InvalidNumber(IndexError):
    """No integer, or one out of its bounds."""

    def __init__(self, given):
        self.given = given


class UnknownName(KeyError):
    """A name that stands for nothing."""

    def __init__(self, wanted):
        self.wanted = wanted


class TooMany(OverflowError):
    """More than the package counts with."""

    def __init__(self, most):
        self.most = most


class Refused(ArithmeticError):
    """What cannot be done, and why."""

    def __init__(self, reason):
        self.reason = reason


class NothingToUndo(LookupError):
    """More steps back than there are moves."""

    def __init__(self, steps):
        self.steps = steps
