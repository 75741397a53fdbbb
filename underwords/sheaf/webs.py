"""The web of a member, its makers, and sections over it."""

from underwords.base.golds import Gold
from underwords.base.integers import is_within
from underwords.base.polys import Poly
from underwords.errors import InvalidNumber, InvalidOperation, TooMany
from underwords.groups.checks import check_words, is_word
from underwords.groups.mirrors import led_root
from underwords.groups.planes import apart_spots
from underwords.groups.roots import rows_of, word_of_root
from underwords.groups.states import links_of, normal_word
from underwords.groups.words import length
from underwords.sheaf.stalks import maker_degrees
from underwords.under.tables import table_of, ties_below
from underwords.under.under import members_under

MAX_WEB = 7
MAX_SECTIONS = 3


def web_ties(system, word):
    """The ascending tuple of all ties: a lower end, an upper end and a mirror that leads them to one another."""
    table = table_of(system, word)
    ties = ties_below(system, table)
    links = links_of(system)
    rows = rows_of(system)
    roots = {root: True for row in ties for _, root in row}
    mirrors = {root: normal_word(links, word_of_root(rows, root)) for root in roots}
    return tuple(sorted([
        (table.words[low], table.words[high], mirrors[root]) for high, row in enumerate(ties) for low, root in row
    ]))


def makers(system, word):
    """The dict from the members under the member, by length, then ascending, to the numbers of their makers."""
    check_words(system, word)
    check_size(system, word)
    table = table_of(system, word)
    # The exponents of P tell that no maker has a greater degree [0.16], [12.5].
    degrees = maker_degrees(ties_below(system, table), max(len(table.words[-1]) - 1, 0) // 2)
    return {low: numbered(degrees[at]) for at, low in enumerate(table.words)}


def section_number(system, word, degree):
    """The number of independent plain sections of a degree."""
    check_words(system, word)
    if not is_within(degree, 0, MAX_SECTIONS):
        raise InvalidNumber(degree)
    check_size(system, word)
    sizes = [len(low) for low in members_under(system, word)]
    return sum([products_of_degree(degree - size, system.letters) for size in sizes])


def led_row(system, word, row):
    """The row of golds to which the word leads a row of golds."""
    check_words(system, word)
    if not is_gold_row(system, row):
        raise InvalidOperation("no tuple of as many golds as letters")
    return led_root(system, word, row)


def is_section(system, word, value):
    """Whether the value is a plain section of degree 1, a dict from the members under the member to rows of golds."""
    check_words(system, word)
    table = table_of(system, word)
    if not isinstance(value, dict) or len(value) != len(table.words):
        return False
    if not all([is_word(system, low) and low in table.spots and is_gold_row(system, value[low]) for low in value]):
        return False
    rows = [[(number.whole, number.part) for number in value[low]] for low in table.words]
    return all([
        is_multiple(rows[low], rows[high], root)
        for high, row in enumerate(ties_below(system, table)) for low, root in row
    ])


def check_size(system, word):
    """Refuse a member that is too long."""
    if length(system, word) > MAX_WEB:
        raise TooMany(MAX_WEB)


def numbered(degrees):
    """The poly with the number of makers of each degree."""
    return Poly(tuple([degrees.count(degree) for degree in range(max(degrees, default=-1) + 1)]))


def products_of_degree(degree, unknowns):
    """How many products of a degree there are in so many unknowns."""
    if degree < 0:
        return 0
    # Each product has some power of the last unknown and a product of the others.
    numbers = [1] * (degree + 1)
    for _ in range(unknowns - 1):
        numbers = [sum(numbers[:at + 1]) for at in range(degree + 1)]
    return numbers[degree]


def is_gold_row(system, value):
    """Whether the value is a tuple of as many golds as letters."""
    if not isinstance(value, tuple) or len(value) != system.letters:
        return False
    return all([isinstance(number, Gold) for number in value])


def is_multiple(one, other, root):
    """Whether the difference of two rows is a multiple of a root."""
    difference = [(a - c, b - d) for (a, b), (c, d) in zip(one, other)]
    return apart_spots(difference, root) is None
