"""Products of the elements D_w of the algebra, ties of members, left cells and their tables."""

from underwords.base.polys import Poly
from underwords.cells.graphs import (
    member_graph, half_degree, is_left, products_with, stood_in, whole_poly,
)
from underwords.errors import InvalidNumber, InvalidOperation, TooMany
from underwords.groups.checks import check_system, check_words, is_letter, is_word
from underwords.groups.words import members, normal, product
from underwords.ones.polys import p_poly
from underwords.under.under import is_under

MAX_MEMBERS = 120
MAX_TRIED = 24


def c_product(system, one, other):
    """The dict from members, by length, then ascending, to their polynomials in v in the product of two members."""
    check_words(system, one, other)
    graph = member_graph(system)
    spots, words = graph.table.spots, graph.table.words
    at = spots[normal(system, one)]
    parts = products_with(graph, spots[normal(system, other)], at)[at]
    return {words[low]: whole_poly(parts[low]) for low in sorted(parts)}


def mu_ties(system):
    """The tuple of all triples of two tied members, the shorter one ahead, and the integer that ties them."""
    check_system(system)
    graph = member_graph(system)
    words = graph.table.words
    found = [(low, high, number) for high in range(len(words)) for low, number in graph.ties[high]]
    return tuple([(words[low], words[high], number) for low, high, number in sorted(found)])


def left_cells(system):
    """The tuple of all left cells, by their first members."""
    check_system(system)
    return cells_of(member_graph(system))


def cell_table(system, cell, letter):
    """The rows of the table of a left cell for a letter."""
    check_system(system)
    if not is_letter(system, letter):
        raise InvalidNumber(letter)
    graph = member_graph(system)
    if not is_cell(system, graph, cell):
        raise InvalidOperation("no left cell as it is returned")
    spots = [graph.table.spots[word] for word in cell]
    columns = [table_column(graph, spots, letter, at) for at in spots]
    return tuple([tuple([column[row] for column in columns]) for row in range(len(spots))])


def greatest_power(system, word):
    """The greatest exponent of v with a member in all products of two members."""
    check_words(system, word)
    if len(members(system)) > MAX_TRIED:
        raise TooMany(MAX_TRIED)
    graph = member_graph(system)
    last = len(graph.table.words) - 1
    spot = graph.table.spots[normal(system, word)]
    products = [parts for at in range(last + 1) for parts in products_with(graph, at, last)]
    return max([half_degree(parts[spot]) for parts in products if spot in parts])


def turned_poly(system, one, other):
    """P of the longest member times the other one and of the longest member times the one."""
    check_words(system, one, other)
    longest = members(system)[-1]
    if not is_under(system, one, other):
        return Poly(())
    return p_poly(system, product(system, longest, other), product(system, longest, one))


def followers(graph, at):
    """The dict of True from the members that follow a member."""
    found = {at: True}
    now = [at]
    while now:
        spot = now.pop()
        for letter in range(len(graph.table.steps)):
            if not is_left(graph, letter, spot):
                fresh = [low for low, _ in stood_in(graph, letter, spot) if low not in found]
                for low in fresh:
                    found[low] = True
                now.extend(fresh)
    return found


def cells_of(graph):
    """The tuple of the left cells of a graph."""
    words = graph.table.words
    behind = [followers(graph, at) for at in range(len(words))]
    cells = {}
    for at in range(len(words)):
        alike = [other for other in sorted(behind[at]) if at in behind[other]]
        cells.setdefault(alike[0], tuple([words[other] for other in alike]))
    return tuple([cells[first] for first in sorted(cells)])


def is_cell(system, graph, value):
    """Whether the value is one of the left cells."""
    if not isinstance(value, tuple) or not all([is_word(system, word) for word in value]):
        return False
    return value in cells_of(graph)


def table_column(graph, spots, letter, at):
    """The polynomials of the members at the spots in the product of a letter and one of them."""
    if is_left(graph, letter, at):
        return [Poly((1, 0, 1), -1) if row == at else Poly(()) for row in spots]
    told = {low: number for low, number in stood_in(graph, letter, at)}
    return [Poly((told.get(row, 0),)) for row in spots]
