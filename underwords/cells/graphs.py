"""The members of a system by indices, which of them mu ties, and how letters multiply sums of elements D_w [15.2].

Polynomials in v that read the same from both ends are told in halves, by their integers from the exponent 0 on.
"""

from underwords.base.polys import poly_of
from underwords.base.terms import added, scaled
from underwords.groups.words import members
from underwords.ones.combined import mu_of, p_terms
from underwords.under.tables import table_of


class Graph:
    """The table of a system, and for each member the pairs of a lesser member and the integer mu other than 0."""

    def __init__(self, table):
        known = {}
        self.table = table
        self.ties = [mu_pairs(table, p_terms(table, known, at), at) for at in range(len(table.words))]


def mu_pairs(table, row, high):
    """The pairs of a member shorter than one and the integer mu of both, where it is not 0."""
    pairs = [(low, mu_of(table, row, low, high)) for low in range(high)]
    return [(low, number) for low, number in pairs if number]


def member_graph(system):
    """The graph of a system; what is no system, and one with too many members, is refused."""
    return Graph(table_of(system, members(system)[-1]))


def is_left(graph, letter, at):
    """Whether the letter is a left letter of the member."""
    return graph.table.steps[letter][at] < at


def stood_in(graph, letter, at):
    """The pairs of a member x and the integer of D_x in D_s D_w, s being no left letter of w."""
    lower = [(low, number) for low, number in graph.ties[at] if is_left(graph, letter, low)]
    return [*lower, (graph.table.steps[letter][at], 1)]


def letter_product(graph, letter, parts):
    """The product of D_s and a sum: a dict from members to polynomials, in halves."""
    made = {}
    for at in parts:
        if is_left(graph, letter, at):
            made[at] = added(made.get(at, ()), twice(parts[at]))
        else:
            for low, number in stood_in(graph, letter, at):
                made[low] = added(made.get(low, ()), scaled(parts[at], number, 0))
    return made


def twice(half):
    """The half of a polynomial, multiplied by v + 1/v."""
    return added((0, *half), (*[2 * number for number in half[1:2]], *half[2:]))


def products_with(graph, at, highest):
    """For all members up to the highest one the dicts of their products with a member, in halves.

    D_x is D_s D_v less the sum of mu(z, v) D_z for those z that have s as a left letter, x being s v.
    """
    table = graph.table
    found = [{at: (1,)}]
    for word in table.words[1:highest + 1]:
        letter, near = word[0], table.spots[word[1:]]
        made = letter_product(graph, letter, found[near])
        for low, number in graph.ties[near]:
            if is_left(graph, letter, low):
                made = less_of(made, found[low], number)
        found.append({key: made[key] for key in made if any(made[key])})
    return found


def less_of(parts, other, number):
    """A sum less an integer times another one."""
    made = {key: parts[key] for key in parts}
    for key in other:
        made[key] = added(made.get(key, ()), scaled(other[key], -number, 0))
    return made


def half_degree(half):
    """The greatest exponent with an integer other than 0."""
    return max([at for at, number in enumerate(half) if number])


def whole_poly(half):
    """The polynomial in v of a half."""
    return poly_of(half[:0:-1] + half, 1 - len(half))
