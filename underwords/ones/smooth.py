"""Smooth members, told by mirrors, by numbers of members, by P, and by patterns of rows."""

from underwords.base.integers import is_integer
from underwords.base.polys import Poly
from underwords.errors import InvalidOperation
from underwords.groups.checks import check_system, check_words, is_word
from underwords.groups.states import links_of
from underwords.groups.systems import System
from underwords.groups.words import normal
from underwords.ones.polys import p_row
from underwords.rows.rows import check_row, is_pattern_places, pattern_places, word_of
from underwords.under.intervals import numbers
from underwords.under.leading import is_word_under
from underwords.under.tables import table_of, ties_below
from underwords.under.under import is_under

BARRED_PATTERNS = ((3, 4, 1, 2), (4, 2, 3, 1))


def mirrors_at(system, word, member):
    """The number of the mirrors at a member under the member of the word."""
    check_words(system, word, member)
    if not is_under(system, member, word):
        raise InvalidOperation("the member is not under that of the word")
    return mirrors_by_member(system, word)[normal(system, member)]


def is_smooth(system, value):
    """Whether the value is a word of a smooth member."""
    check_system(system)
    return is_word(system, value) and reads_alike(numbers(system, value))


def smooth_paper(system, word):
    """The numbers of the members under a smooth member, or a member at which there are too many mirrors."""
    sizes = numbers(system, word)
    if reads_alike(sizes):
        return ("smooth", sizes)
    counts = mirrors_by_member(system, word)
    many = [low for low in counts if counts[low] >= len(sizes)]
    return ("mirrors", many[0], counts[many[0]])


def is_smooth_paper(system, word, value):
    """Whether the value is one of these."""
    sizes = numbers(system, word)
    if not isinstance(value, tuple) or not value or not isinstance(value[0], str):
        return False
    if value[0] == "smooth":
        return len(value) == 2 and reads_alike(sizes) and is_same_row(value[1], sizes)
    if value[0] != "mirrors" or len(value) != 3 or not is_word(system, value[1]) or not is_integer(value[2]):
        return False
    counts = mirrors_by_member(system, word)
    return value[2] >= len(sizes) and counts.get(value[1]) == value[2]


def worst_members(system, word):
    """The greatest members with a P other than 1, by length, then ascending."""
    row = p_row(system, word)
    found = [low for low in row if row[low] != Poly((1,))]
    links = links_of(system)
    return tuple([
        low for low in found
        if not any([is_word_under(links, low, other) for other in found if len(other) > len(low)])
    ])


def row_paper(row):
    """The runs of the numbers of a smooth row, or places at which the row has a pattern that keeps it from this."""
    check_row(row)
    for pattern in BARRED_PATTERNS:
        places = pattern_places(row, pattern)
        if places is not None:
            return ("pattern", places)
    return ("smooth", runs_of(numbers(System.rows(len(row)), word_of(row))))


def is_row_paper(row, value):
    """Whether the value is one of these."""
    check_row(row)
    if not isinstance(value, tuple) or len(value) != 2 or not isinstance(value[0], str):
        return False
    if value[0] == "pattern":
        return any([is_pattern_places(row, pattern, value[1]) for pattern in BARRED_PATTERNS])
    kind, told = row_paper(row)
    return value[0] == kind and is_same_row(value[1], told)


def mirrors_by_member(system, word):
    """The dict from the members under the member to the numbers of the mirrors at them.

    Each mirror at a member is that of one tie, from the member up or down.
    """
    table = table_of(system, word)
    counts = {low: 0 for low in table.words}
    for high, row in enumerate(ties_below(system, table)):
        for low, _ in row:
            counts[table.words[low]] += 1
            counts[table.words[high]] += 1
    return counts


def reads_alike(sizes):
    """Whether the tuple reads the same from both ends."""
    return sizes == sizes[::-1]


def is_same_row(value, row):
    """Whether the value is a tuple of the same integers."""
    return isinstance(value, tuple) and all([is_integer(number) for number in value]) and value == row


def runs_of(sizes):
    """The runs e, none less than the one ahead, of a product of polynomials 1 + q + .. + q ** e with these integers."""
    # Multiplied by 1 - q for each run, the integer at q, it is the product of all 1 - q ** (e + 1), least ones ahead.
    left = list(sizes)
    for _ in range(sizes[1] if len(sizes) > 1 else 0):
        left = [number - ahead for number, ahead in zip([*left, 0], [0, *left])]
    runs = []
    spots = [at for at, number in enumerate(left) if at and number]
    while spots:
        runs.append(spots[0] - 1)
        for at in range(spots[0], len(left)):
            left[at] = left[at] + left[at - spots[0]]
        spots = [at for at, number in enumerate(left) if at and number]
    return tuple(runs)
