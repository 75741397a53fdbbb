"""Entries of the algebra [8.1], and how letters multiply them.

Entries are dicts from members to polynomials other than 0. Here members are told by their states
(underwords.groups.states), which letters lead on quickly.
"""

from underwords.base.polys import Poly
from underwords.errors import TooMany
from underwords.groups.factors import is_below
from underwords.groups.states import normal_of, put_ahead, state_of

MOST_PARTS = 120


def unit_entries(links):
    """The entries of T of the first member."""
    return {state_of(links, ()): Poly((1,))}


def by_states(links, entries):
    """The entries with states in the place of words."""
    return {state_of(links, word): entries[word] for word in entries}


def by_words(links, entries):
    """The entries with ascending normal words in the place of states."""
    words = {normal_of(links, state): entries[state] for state in entries}
    return {word: words[word] for word in sorted(words)}


def without_zeros(entries):
    """The entries without the polynomial 0."""
    return {key: entries[key] for key in entries if entries[key]}


def summed(one, other):
    """The entries of a sum."""
    zero = Poly(())
    both = list(one) + [key for key in other if key not in one]
    return without_zeros({key: one.get(key, zero) + other.get(key, zero) for key in both})


def letter_times(links, entries, letter, is_back):
    """The entries of the product of T of a letter, or of the back of it, and an element."""
    zero = Poly(())
    made = {}
    for state in entries:
        near = put_ahead(links, state, letter)
        low, high = (near, state) if is_below(state[letter]) else (state, near)
        if low not in made:
            less, more = entries.get(low, zero), entries.get(high, zero)
            if is_back:
                made[low] = more + less.moved(-1) - less
                made[high] = less.moved(-1)
            else:
                made[low] = more.moved(1)
                made[high] = less + more.moved(1) - more
    return without_zeros(made)


def parts_along(links, words, start, is_back, is_growing):
    """The dict from the words and their ends to the products along them with an element.

    Products that are growing have members that stay in all longer ones; they are refused once they have too many.
    """
    parts = {(): start}
    for word in words:
        for at in range(len(word) - 1, -1, -1):
            if word[at:] not in parts:
                part = letter_times(links, parts[word[at + 1:]], word[at], is_back)
                if is_growing:
                    check_parts(part)
                parts[word[at:]] = part
    return parts


def combined(entries, parts):
    """The sum of the parts of words, each one multiplied by the polynomial of the word."""
    zero = Poly(())
    total = {}
    for word in entries:
        part = parts[word]
        for state in part:
            total[state] = total.get(state, zero) + entries[word] * part[state]
    return without_zeros(total)


def check_parts(entries):
    """Refuse more members than an element has."""
    if len(entries) > MOST_PARTS:
        raise TooMany(MOST_PARTS)


def are_above(entries):
    """Whether no integer of the polynomials is below 0."""
    return all([number >= 0 for key in entries for number in entries[key].coefficients])


def never_shrinks(one, other):
    """Whether no members of the parts of a product fall out of its sum.

    T of a letter gives each member to others with the factors q, q - 1 and 1, and a number above 1 in the place of q
    leaves all of them above 0. So nothing adds up to 0 where no integer is below 0, and in the only part of the
    product of one member and another one.
    """
    return len(one) == len(other) == 1 or (are_above(one) and are_above(other))
