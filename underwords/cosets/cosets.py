"""Cosets: members with all members by some letters behind them, and the polynomials R and P of two of them."""

from underwords.base.polys import Poly, poly_of
from underwords.errors import InvalidOperation, TooMany
from underwords.groups.checks import check_letters, check_system, check_words
from underwords.groups.states import (
    by_length, left_of, links_of, normal_of, normal_word, put_ahead, state_of, words_by,
)
from underwords.groups.words import members, right_letters
from underwords.ones.combined import p_terms
from underwords.ones.polys import p_row
from underwords.ratio.rs import r_row
from underwords.under.leading import words_under
from underwords.under.tables import LotTable

KINDS = ("q", "-1")
MOST_MEMBERS = 120
LONGEST = 40


def is_least(system, word, letters):
    """Whether the member is the least one of its coset."""
    check_coset(system, letters, word)
    return not any([letter in letters for letter in right_letters(system, word)])


def least_in(system, word, letters):
    """The normal word of the least member of the coset."""
    return split(system, word, letters)[0]


def split(system, word, letters):
    """The normal words of the least member of the coset and of the member by the letters behind it."""
    check_coset(system, letters, word)
    links = links_of(system)
    # The right letters of a member are the left letters of the undone one.
    state = state_of(links, word[::-1])
    taken = []
    rights = [letter for letter in left_of(state) if letter in letters]
    while rights:
        taken.append(rights[0])
        state = put_ahead(links, state, rights[0])
        rights = [letter for letter in left_of(state) if letter in letters]
    return normal_word(links, normal_of(links, state)[::-1]), normal_word(links, tuple(taken[::-1]))


def coset(system, word, letters):
    """The normal words of the coset of the member, by length, then ascending."""
    least = least_in(system, word, letters)
    links = links_of(system)
    found = by_length([normal_word(links, least + behind) for behind in members_by(links, letters)])
    check_length(found[-1])
    return found


def greatest_in(system, word, letters):
    """The normal word of the greatest member of the coset."""
    least = least_in(system, word, letters)
    links = links_of(system)
    found = normal_word(links, least + members_by(links, letters)[-1])
    check_length(found)
    return found


def least_members(system, letters):
    """The normal words of the least members of all cosets, by length, then ascending."""
    check_system(system)
    check_letters(system, letters)
    return tuple([word for word in members(system) if is_least(system, word, letters)])


def coset_r(system, one, other, letters, *, kind="q"):
    """R of a kind for the least members of two cosets."""
    check_kind(system, letters, kind, one, other)
    low, high = least_in(system, one, letters), least_in(system, other, letters)
    by = members_by(links_of(system), letters)
    greatest_table(system, high, by)
    row = r_row(system, high)
    links = links_of(system)
    total = Poly(())
    for behind in by:
        part = row.get(normal_word(links, low + behind), Poly(()))
        total = total + (part if kind == "-1" else signed(behind, part.moved(len(behind))))
    return total


def coset_p(system, one, other, letters, *, kind="q"):
    """P of a kind for the least members of two cosets."""
    check_kind(system, letters, kind, one, other)
    low, high = least_in(system, one, letters), least_in(system, other, letters)
    links = links_of(system)
    by = members_by(links, letters)
    table = greatest_table(system, high, by)
    if kind == "-1":
        spot = table.spots.get(normal_word(links, low + by[-1]))
        return Poly(()) if spot is None else poly_of(p_terms(table, {}, len(table.words) - 1)[spot], 0)
    row = p_row(system, high)
    total = Poly(())
    for behind in by:
        total = total + signed(behind, row.get(normal_word(links, low + behind), Poly(())))
    return total


def check_coset(system, letters, *words):
    """Refuse what is no system, no word of it, and no lot of letters."""
    check_words(system, *words)
    check_letters(system, letters)


def check_kind(system, letters, kind, *words):
    """Refuse these, and then what is no kind."""
    check_coset(system, letters, *words)
    if not isinstance(kind, str) or kind not in KINDS:
        raise InvalidOperation("no kind of R and P")


def check_length(word):
    """Refuse a word that is too long."""
    if len(word) > LONGEST:
        raise TooMany(LONGEST)


def members_by(links, letters):
    """The normal words of the members by some letters, by length; too many of them are refused."""
    found = words_by(links, letters, MOST_MEMBERS)
    if found is None:
        raise TooMany(MOST_MEMBERS)
    return found


def greatest_table(system, least, by):
    """The table of the lot of the greatest member of a coset, whose word may be longer than one that is passed."""
    links = links_of(system)
    words = words_under(links, normal_word(links, least + by[-1]), MOST_MEMBERS)
    if words is None:
        raise TooMany(MOST_MEMBERS)
    return LotTable(links, words)


def signed(word, poly):
    """The polynomial, or its opposite for a word with an odd number of letters."""
    return -poly if len(word) % 2 else poly
