"""Numbers a + b s, where s is above 0 and s s = s + 1."""

from underwords.base.integers import is_integer
from underwords.errors import InvalidNumber, InvalidOperation


class Gold:
    """A number with an integer as its whole, and one as its part."""

    def __init__(self, whole, part=0):
        if not is_integer(whole):
            raise InvalidNumber(whole)
        if not is_integer(part):
            raise InvalidNumber(part)
        self._whole = whole
        self._part = part

    @property
    def whole(self):
        """The integer beside s."""
        return self._whole

    @property
    def part(self):
        """The integer ahead of s."""
        return self._part

    @property
    def norm(self):
        """The integer that is multiplied as the golds are."""
        return self._whole * self._whole + self._whole * self._part - self._part * self._part

    @property
    def sense(self):
        """1 above 0, 0 for 0, -1 below 0."""
        return sense_of(self._whole, self._part)

    def is_less(self, other):
        """Whether it is less, as a number, than another gold."""
        if not isinstance(other, Gold):
            raise InvalidOperation("only golds are compared")
        return sense_of(other.whole - self._whole, other.part - self._part) > 0

    def __add__(self, other):
        if not isinstance(other, Gold):
            return NotImplemented
        return gold_of(self._whole + other.whole, self._part + other.part)

    def __sub__(self, other):
        if not isinstance(other, Gold):
            return NotImplemented
        return gold_of(self._whole - other.whole, self._part - other.part)

    def __mul__(self, other):
        if not isinstance(other, Gold):
            return NotImplemented
        whole, part = times((self._whole, self._part), (other.whole, other.part))
        return gold_of(whole, part)

    def __neg__(self):
        return gold_of(-self._whole, -self._part)

    def __eq__(self, other):
        return isinstance(other, Gold) and self._whole == other._whole and self._part == other._part

    def __bool__(self):
        return bool(self._whole or self._part)

    def __str__(self):
        return str(gold_text(self._whole, self._part))


def gold_of(whole, part):
    """The gold of two integers that were worked out, so that they may be longer than passed ones."""
    made = Gold(0)
    made._whole = whole
    made._part = part
    return made


def sense_of(whole, part):
    """1, 0 or -1: whether whole + part s is above, at or below 0."""
    # Twice the number is twice + part times the root of 5, so squares tell which of both weighs more.
    twice = 2 * whole + part
    if twice == 0 and part == 0:
        return 0
    if twice >= 0 and part >= 0:
        return 1
    if twice <= 0 and part <= 0:
        return -1
    is_twice_heavier = twice * twice > 5 * part * part
    return 1 if is_twice_heavier == (twice > 0) else -1


def times(one, other):
    """The product of two numbers, told as pairs of a whole and a part."""
    a, b = one
    c, d = other
    return (a * c + b * d, a * d + b * c + b * d)


def gold_text(whole, part):
    """The text of a gold."""
    if part == 0:
        return f"{whole}"
    size = abs(part)
    body = "s" if size == 1 else f"{size} s"
    if whole == 0:
        return f"-{body}" if part < 0 else body
    sign = "-" if part < 0 else "+"
    return f"{whole} {sign} {body}"
