"""Fractions of numbers a + b s: triples (a, b, d) for (a + b s) / d, d above 0, in lowest terms."""

from math import gcd

from underwords.base.golds import times

NONE = (0, 0, 1)
ONE = (1, 0, 1)


def fraction(whole, part, under):
    """The fraction of the number whole + part s and an integer other than 0."""
    common = gcd(whole, part, under)
    if under < 0:
        common = -common
    return (whole // common, part // common, under // common)


def opposite(one):
    """The opposite of a fraction."""
    return (-one[0], -one[1], one[2])


def plus(one, other):
    """The sum of two fractions."""
    a, b, d = one
    c, e, f = other
    return fraction(a * f + c * d, b * f + e * d, d * f)


def by(one, other):
    """The product of two fractions."""
    whole, part = times(one[:2], other[:2])
    return fraction(whole, part, one[2] * other[2])


def inverted(one):
    """One divided by a fraction other than 0."""
    whole, part, under = one
    # The number times whole + part - part s is an integer, since 1 - s solves the equation of s, too.
    norm = whole * whole + whole * part - part * part
    return fraction(under * (whole + part), -under * part, norm)
