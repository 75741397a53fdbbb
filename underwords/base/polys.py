"""Polynomials: integers at powers of q, with exponents of any sign."""

from underwords.base.integers import is_integer, is_within
from underwords.base.signs import poly_text, read_terms
from underwords.errors import InvalidNumber, InvalidPoly, ParseError, Refused

MAX_COEFFICIENTS = 200
MAX_EXPONENT = 400
MAX_RAISED = 40


class Poly:
    """A sum of integers times powers of q."""

    def __init__(self, coefficients, lowest=0):
        if not are_coefficients(coefficients):
            raise InvalidPoly("the coefficients are no tuple of at most 200 integers")
        if not is_exponent(lowest):
            raise InvalidNumber(lowest)
        self._coefficients, self._lowest = trimmed(coefficients, lowest)

    @classmethod
    def read(cls, text):
        """The poly whose text it is."""
        if not isinstance(text, str):
            raise ParseError(None)
        terms = read_terms(text)
        if terms is None or not are_narrow(terms):
            raise ParseError(0)
        least, most = min(list(terms)), max(list(terms))
        made = cls(tuple([terms.get(exponent, 0) for exponent in range(least, most + 1)]), least)
        # Terms in another sequence, needless zeros and the like have the poly, but not its text.
        if str(made) != text:
            raise ParseError(0)
        return made

    @property
    def coefficients(self):
        """The integers from the lowest to the greatest exponent."""
        return self._coefficients

    @property
    def lowest(self):
        """The lowest exponent with an integer other than 0; 0 for the poly 0."""
        return self._lowest

    @property
    def degree(self):
        """The greatest exponent with an integer other than 0; None for the poly 0."""
        return self._lowest + len(self._coefficients) - 1 if self._coefficients else None

    @property
    def is_alike_turned(self):
        """Whether it reads alike from both ends."""
        return self._coefficients == self._coefficients[::-1]

    def at(self, exponent):
        """The integer at an exponent."""
        if not is_integer(exponent):
            raise InvalidNumber(exponent)
        return integer_at(self._coefficients, exponent - self._lowest)

    def raised(self, many):
        """Its power."""
        if not is_within(many, 0, MAX_RAISED):
            raise InvalidNumber(many)
        made = Poly((1,))
        for digit in f"{many:b}":
            made = made * made
            if digit == "1":
                made = made * self
        return made

    def turned(self):
        """The poly with 1 / q in the place of q."""
        return poly_of(self._coefficients[::-1], 1 - self._lowest - len(self._coefficients))

    def moved(self, by):
        """The poly multiplied by a power of q."""
        if not is_exponent(by):
            raise InvalidNumber(by)
        return poly_of(self._coefficients, self._lowest + by)

    def value_at(self, number):
        """The value at an integer."""
        if not is_integer(number):
            raise InvalidNumber(number)
        if self._lowest < 0:
            raise Refused(("below",))
        value = 0
        for coefficient in self._coefficients[::-1]:
            value = value * number + coefficient
        return value * power(number, self._lowest)

    def __add__(self, other):
        if not isinstance(other, Poly):
            return NotImplemented
        return sum_of(self, other, 1)

    def __sub__(self, other):
        if not isinstance(other, Poly):
            return NotImplemented
        return sum_of(self, other, -1)

    def __mul__(self, other):
        if not isinstance(other, Poly):
            return NotImplemented
        return poly_of(folded(self._coefficients, other._coefficients), self._lowest + other._lowest)

    def __neg__(self):
        return poly_of(tuple([-number for number in self._coefficients]), self._lowest)

    def __eq__(self, other):
        return isinstance(other, Poly) and self._lowest == other._lowest and self._coefficients == other._coefficients

    def __bool__(self):
        return bool(self._coefficients)

    def __len__(self):
        return len(self._coefficients)

    def __str__(self):
        return str(poly_text(self._coefficients, self._lowest))


def are_coefficients(value):
    """Whether the value is a tuple of at most 200 integers."""
    if not isinstance(value, tuple) or len(value) > MAX_COEFFICIENTS:
        return False
    return all([is_integer(number) for number in value])


def is_exponent(value):
    """Whether the value is an integer from -400 to 400."""
    return is_within(value, -MAX_EXPONENT, MAX_EXPONENT)


def are_narrow(terms):
    """Whether a dict from exponents to integers fits into a poly that can be passed."""
    least, most = min(list(terms)), max(list(terms))
    return is_exponent(least) and most - least < MAX_COEFFICIENTS


def trimmed(coefficients, lowest):
    """The integers without zeros at both ends, and the lowest exponent that is left."""
    spots = [at for at, number in enumerate(coefficients) if number]
    if not spots:
        return (), 0
    return coefficients[spots[0]:spots[-1] + 1], lowest + spots[0]


def poly_of(coefficients, lowest):
    """The poly of a tuple of integers that were worked out, so that they may be longer, and more."""
    kept, low = trimmed(coefficients, lowest)
    made = Poly(())
    made._coefficients = kept
    made._lowest = low
    return made


def integer_at(coefficients, at):
    """The integer at a place of the tuple, 0 beside it."""
    return coefficients[at] if 0 <= at < len(coefficients) else 0


def sum_of(one, other, sign):
    """The poly one + sign times other."""
    if not one or not other:
        return one if not other else poly_of(tuple([sign * number for number in other.coefficients]), other.lowest)
    low = min(one.lowest, other.lowest)
    high = max(one.degree, other.degree)
    return poly_of(tuple([
        integer_at(one.coefficients, at - one.lowest) + sign * integer_at(other.coefficients, at - other.lowest)
        for at in range(low, high + 1)
    ]), low)


def folded(one, other):
    """The integers of the product of two polys with the integers of both tuples."""
    if not one or not other:
        return ()
    # Both are packed into one integer each, with room for every integer of the product and its sign.
    widest = widest_of(one) + widest_of(other) + min(len(one), len(other)).bit_length() + 1
    return unpacked(packed(one, widest) * packed(other, widest), len(one) + len(other) - 1, widest)


def widest_of(coefficients):
    """The greatest number of bits of one of the integers."""
    return max([number.bit_length() for number in coefficients])


def packed(coefficients, bits):
    """The sum of the integers, each one shifted by so many bits more than the one ahead of it."""
    if len(coefficients) == 1:
        return coefficients[0]
    half = len(coefficients) // 2
    return packed(coefficients[:half], bits) + (packed(coefficients[half:], bits) << (bits * half))


def unpacked(number, many, bits):
    """The tuple of so many integers, below 2 to the power bits - 1 without their signs, that were packed."""
    if many == 1:
        return (number,)
    half = many // 2
    low = number & ((1 << (bits * half)) - 1)
    # The lower half is below 0 exactly if its uppermost bit is set; the upper half has borrowed from it then.
    if low >> (bits * half - 1):
        low = low - (1 << (bits * half))
    high = (number - low) >> (bits * half)
    return unpacked(low, half, bits) + unpacked(high, many - half, bits)


def power(number, many):
    """The power of an integer with an exponent of at least 0."""
    made = 1
    for digit in f"{many:b}":
        made = made * made
        if digit == "1":
            made = made * number
    return made
