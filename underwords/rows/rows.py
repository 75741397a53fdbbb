"""Rows and signed rows of integers, in the place of members, their corners and their patterns."""

from underwords.base.integers import is_within
from underwords.errors import InvalidNumber, InvalidOperation, InvalidRow
from underwords.groups.checks import check_word
from underwords.groups.states import links_of, normal_word
from underwords.groups.systems import System

MOST_PLACES = 5
MOST_SIGNED = 3


def row_of(word, places):
    """The row of a word."""
    if not is_within(places, 2, MOST_PLACES):
        raise InvalidNumber(places)
    check_word(System.rows(places), word)
    row = list(range(1, places + 1))
    for letter in word:
        row[letter], row[letter + 1] = row[letter + 1], row[letter]
    return tuple(row)


def word_of(row):
    """The normal word of a row."""
    check_row(row)
    now = list(row)
    letters = []
    falls = falls_of(now)
    # Right letters are taken off, until (1, .., n) is left.
    while falls:
        at = falls[0]
        now[at], now[at + 1] = now[at + 1], now[at]
        letters.append(at)
        falls = falls_of(now)
    return normal_word(links_of(System.rows(len(row))), tuple(letters[::-1]))


def signed_row_of(word, places):
    """The signed row of a word."""
    if not is_within(places, 2, MOST_SIGNED):
        raise InvalidNumber(places)
    check_word(System.signed(places), word)
    row = list(range(1, places + 1))
    for letter in word:
        row = signed_step(row, letter)
    return tuple(row)


def word_of_signed(row):
    """The normal word of a signed row."""
    if not is_signed(row):
        raise InvalidRow("no signed row")
    now = list(row)
    letters = []
    rights = signed_rights(now)
    while rights:
        now = signed_step(now, rights[0])
        letters.append(rights[0])
        rights = signed_rights(now)
    return normal_word(links_of(System.signed(len(row))), tuple(letters[::-1]))


def corner(one, other):
    """The least corner of the first row over the second one, None if there is none."""
    first, second = told_rows(one, other)
    corners = [(i, j) for i in range(1, len(first) + 1) for j in sorted(first) if is_over(first, second, i, j)]
    return corners[0] if corners else None


def is_corner(one, other, value):
    """Whether the value is a corner of the first row over the second one."""
    first, second = told_rows(one, other)
    if not isinstance(value, tuple) or len(value) != 2:
        return False
    i, j = value
    if not is_within(i, 1, len(first)) or not is_within(j, min(first), max(first)) or j not in first:
        return False
    return is_over(first, second, i, j)


def pattern_places(row, pattern):
    """Any ascending tuple of places at which the row has the pattern, None if there is none."""
    check_row(row)
    check_row(pattern)
    begun = [()]
    for many in range(1, len(pattern) + 1):
        longer = [(*places, at) for places in begun for at in range(places[-1] + 1 if places else 0, len(row))]
        begun = [places for places in longer if has_pattern(row, pattern[:many], places)]
    return begun[0] if begun else None


def is_pattern_places(row, pattern, value):
    """Whether the value is such a tuple."""
    check_row(row)
    check_row(pattern)
    if not isinstance(value, tuple) or len(value) != len(pattern):
        return False
    if not all([is_within(at, 0, len(row) - 1) for at in value]):
        return False
    return all([at < behind for at, behind in zip(value, value[1:])]) and has_pattern(row, pattern, value)


def is_row(value):
    """Whether the value is a row."""
    return isinstance(value, tuple) and 2 <= len(value) <= MOST_PLACES and are_entries(value, 1)


def is_signed(value):
    """Whether the value is a signed row."""
    return isinstance(value, tuple) and 2 <= len(value) <= MOST_SIGNED and are_entries(value, -len(value))


def are_entries(value, least):
    """Whether the tuple has, without their signs, the integers from 1 on, each once, and none below the least one."""
    many = len(value)
    if not all([is_within(entry, least, many) for entry in value]):
        return False
    return sorted([abs(entry) for entry in value]) == list(range(1, many + 1))


def check_row(row):
    """Refuse what is no row."""
    if not is_row(row):
        raise InvalidRow("no row")


def falls_of(row):
    """The places whose entry is greater than the next one."""
    return [at for at in range(len(row) - 1) if row[at] > row[at + 1]]


def signed_rights(row):
    """The ascending list of the right letters of the member of a signed row."""
    return ([0] if row[0] < 0 else []) + [at + 1 for at in falls_of(row)]


def signed_step(row, letter):
    """The list of the entries of a signed row with a letter put behind its word."""
    now = list(row)
    if letter == 0:
        now[0] = -now[0]
    else:
        now[letter - 1], now[letter] = now[letter], now[letter - 1]
    return now


def told_rows(one, other):
    """Both tuples as rows, if they are rows, and otherwise the doubled rows of both."""
    for row in (one, other):
        if not is_row(row) and not is_signed(row):
            raise InvalidRow("neither a row nor a signed row")
    if len(one) != len(other):
        raise InvalidOperation("rows with unlike numbers of entries")
    return (one, other) if is_row(one) and is_row(other) else (doubled(one), doubled(other))


def doubled(row):
    """The doubled row of a signed row."""
    return tuple([-entry for entry in row[::-1]]) + row


def is_over(first, second, i, j):
    """Whether more of the first i entries are at least j in the first row than in the second one."""
    return sum([1 for entry in first[:i] if entry >= j]) > sum([1 for entry in second[:i] if entry >= j])


def has_pattern(row, pattern, places):
    """Whether the entries at the places lie to one another as those of the pattern."""
    told = [(row[at], entry) for at, entry in zip(places, pattern)]
    return all([(here < there) == (low < high) for here, low in told for there, high in told])
