"""The polynomials P(u, w), the integers mu, and the elements C_w of the algebra."""

from underwords.algebra.elements import Element
from underwords.base.polys import Poly, poly_of
from underwords.groups.checks import check_words
from underwords.groups.words import normal
from underwords.ones.bars import p_by_r
from underwords.ones.combined import mu_of, p_terms
from underwords.ratio.rows import all_rows
from underwords.under.tables import table_of

MAX_UNDER = 120


def p_poly(system, one, other):
    """P of two members."""
    check_words(system, one, other)
    return p_row(system, other).get(normal(system, one), Poly(()))


def p_row(system, word):
    """The dict from all members under the member, by length, then ascending, to P of them and of it, by letters."""
    table = table_of(system, word)
    row = p_terms(table, {}, len(table.words) - 1)
    return {low: poly_of(terms, 0) for low, terms in zip(table.words, row)}


def p_by_bar(system, word):
    """The same dict, by the bar."""
    table = table_of(system, word)
    sizes = [len(low) for low in table.words]
    found = p_by_r(sizes, list(range(len(sizes))), all_rows(table))
    return {table.words[at]: poly_of(found[at], 0) for at in found}


def mu(system, one, other):
    """The integer mu of two members."""
    check_words(system, one, other)
    table = table_of(system, other)
    low = table.spots.get(normal(system, one))
    last = len(table.words) - 1
    return 0 if low is None else mu_of(table, p_terms(table, {}, last), low, last)


def c_element(system, word):
    """The element C_w: the sum of the members under the member, each one multiplied by its P."""
    return Element(system, p_row(system, word))
