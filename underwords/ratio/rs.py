"""The polynomials R(u, w)."""

from underwords.base.polys import Poly, poly_of
from underwords.errors import TooMany
from underwords.groups.checks import check_words
from underwords.groups.words import length, normal
from underwords.paths.orders import MAX_PATHS, rising_numbers
from underwords.ratio.rows import greatest_row
from underwords.under.tables import table_of


def r_poly(system, low, high):
    """R of two members."""
    check_words(system, low, high)
    return r_row(system, high).get(normal(system, low), Poly(()))


def r_row(system, word):
    """The dict from all members under the member, by length, then ascending, to R of them and of the member."""
    table = table_of(system, word)
    return {low: poly_of(terms, 0) for low, terms in zip(table.words, greatest_row(table))}


def r_by_paths(system, order, low, high):
    """R of two members by the rising paths in an order of mirrors."""
    counts = rising_numbers(system, order, low, high)
    if sum(counts.values()) > MAX_PATHS:
        raise TooMany(MAX_PATHS)
    difference = length(system, high) - length(system, low)
    total = Poly(())
    for steps in counts:
        share = Poly((-1, 1)).raised(steps).moved((difference - steps) // 2)
        total += Poly((counts[steps],)) * share
    return total
