"""Matchings of lots, and the polynomials R and P told by the order of a lot alone."""

from underwords.base.polys import Poly, poly_of
from underwords.base.integers import is_within
from underwords.base.terms import stepped
from underwords.errors import InvalidLot, InvalidNumber, InvalidOperation, Refused, TooMany
from underwords.groups.checks import check_words, is_letter
from underwords.ones.bars import p_by_r
from underwords.ones.pairings import Pairing, bits_of, matchings_of, spots_of
from underwords.groups.states import links_of, normal_word
from underwords.under.lots import Lot
from underwords.under.under import members_under

MAX_MATCHED = 60
MAX_LISTED = 24


def matching(lot):
    """Any matching of a lot, None if there is none."""
    check_lot(lot)
    check_size(len(lot), MAX_MATCHED)
    found = matchings_of(Pairing(lot), all_bits(lot), True)
    return in_sequence(found[0]) if found else None


def is_matching(lot, value):
    """Whether the value is a matching of the lot."""
    check_lot(lot)
    size = len(lot)
    if not isinstance(value, tuple) or len(value) != size:
        return False
    if not all([is_within(at, 0, size - 1) for at in value]):
        return False
    pairing = Pairing(lot)
    if not all([value[near] == at and pairing.near[at] >> near & 1 for at, near in enumerate(value)]):
        return False
    return all([value[low] == high or pairing.over[value[low]] >> value[high] & 1 for low, high in lot.covers])


def all_matchings(lot):
    """The ascending tuple of all matchings of a lot."""
    check_lot(lot)
    check_size(len(lot), MAX_LISTED)
    return tuple(sorted([in_sequence(found) for found in matchings_of(Pairing(lot), all_bits(lot), False)]))


def letter_matching(system, word, letter, *, right=False):
    """The matching of the lot of a member by a left letter, or by a right one."""
    check_words(system, word)
    if not is_letter(system, letter):
        raise InvalidNumber(letter)
    if not isinstance(right, bool):
        raise InvalidOperation("right is neither True nor False")
    words = members_under(system, word)
    links = links_of(system)
    spots = {low: at for at, low in enumerate(words)}
    partners = [spots.get(normal_word(links, (*low, letter) if right else (letter, *low))) for low in words]
    # The letter makes the greatest member of the lot shorter exactly if it leads it to one of the lot.
    if partners[-1] is None:
        raise Refused(("letter",))
    return tuple(partners)


def r_of_lot(lot, one, other):
    """R of two elements, by any matchings."""
    check_elements(lot, one, other)
    pairing = Pairing(lot)
    if not pairing.over[one] >> other & 1:
        return Poly(())
    return poly_of(told_row(pairing, {}, other)[one], 0)


def p_of_lot(lot, one, other):
    """P of two elements, by the polynomials R of all pairs between."""
    check_elements(lot, one, other)
    pairing = Pairing(lot)
    between = spots_of(pairing.over[one] & pairing.under[other])
    if not between:
        return Poly(())
    known = {}
    rows = {at: told_row(pairing, known, at) for at in between}
    return poly_of(p_by_r(lot.ranks, between, rows)[one], 0)


def r_by_matching_of_lot(lot, value, one):
    """R of an element and of the last one, the first step by a told matching."""
    check_lot(lot)
    if not is_matching(lot, value):
        raise InvalidOperation("no matching of the lot")
    check_element(lot, one)
    pairing = Pairing(lot)
    last = len(lot) - 1
    if pairing.under[last] != all_bits(lot):
        raise Refused(("greatest",))
    check_size(len(lot), MAX_MATCHED)
    row = stepped_row(pairing, dict(enumerate(value)), told_row(pairing, {}, value[last]), last)
    return poly_of(row[one], 0)


def told_row(pairing, known, top):
    """The list of R of all elements of the lot and one of them, in terms; known rows are kept."""
    if top not in known:
        known[top] = made_row(pairing, known, top)
    return known[top]


def made_row(pairing, known, top):
    """The list of R of all elements and one of them, by any matching of the part below it."""
    part = pairing.under[top]
    if part == 1 << top:
        return [(1,) if at == top else () for at in range(pairing.size)]
    found = matchings_of(pairing, part, True)
    if not found:
        raise Refused(("matching",))
    return stepped_row(pairing, found[0], told_row(pairing, known, found[0][top]), top)


def stepped_row(pairing, partners, row, top):
    """The list of R of all elements and one of them, from that of its partner in a matching of its part [10.3]."""
    made = [() for _ in range(pairing.size)]
    for at in spots_of(pairing.under[top]):
        near = partners[at]
        is_below = pairing.under[at] >> near & 1
        made[at] = row[near] if is_below else stepped(row[near], row[at])
    return made


def check_lot(lot):
    """Refuse what is no lot."""
    if not isinstance(lot, Lot):
        raise InvalidLot("no object of Lot")


def check_element(lot, at):
    """Refuse what is no element of the lot."""
    if not is_within(at, 0, len(lot) - 1):
        raise InvalidNumber(at)


def check_size(size, most):
    """Refuse too many of them."""
    if size > most:
        raise TooMany(most)


def check_elements(lot, one, other):
    """Refuse what is no lot, what is no element, and an element with too many ones under it."""
    check_lot(lot)
    check_element(lot, one)
    check_element(lot, other)
    check_size(len(spots_of(Pairing(lot).under[other])), MAX_MATCHED)


def all_bits(lot):
    """The bits of all elements of a lot."""
    return bits_of(list(range(len(lot))))


def in_sequence(partners):
    """The tuple of the partners of a matching."""
    return tuple([partners[at] for at in range(len(partners))])
