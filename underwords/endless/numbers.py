"""Systems with endlessly many members, degrees, and the numbers of members by length."""

from underwords.base.integers import is_within
from underwords.endless.series import inverses_of, product_series, turned_series
from underwords.endless.shapes import degrees_of
from underwords.errors import InvalidNumber, Refused, TooMany
from underwords.groups.checks import check_letters, check_system
from underwords.groups.states import first_state, links_of, next_level

MOST_COUNTED = 2000
MOST_LAST = 40


def is_endless(system):
    """Whether the system has endlessly many members."""
    check_system(system)
    return degrees_of(system, all_letters(system)) is None


def degrees(system):
    """The degrees of a system with finitely many members."""
    if is_endless(system):
        raise Refused(("endless",))
    return tuple(degrees_of(system, all_letters(system)))


def greatest_length(system):
    """The greatest length of a member."""
    return sum([degree - 1 for degree in degrees(system)])


def length_numbers(system, last):
    """The numbers of members of each length up to the last one, by the members themselves."""
    check_last(system, (), last)
    links = links_of(system)
    level = {first_state(links): ()}
    counts = [1]
    for _ in range(last):
        level = next_level(links, level)
        counts.append(len(level))
        if sum(counts) > MOST_COUNTED:
            raise TooMany(MOST_COUNTED)
    return tuple(counts)


def numbers_by_letters(system, last):
    """The same numbers by the lots of letters [18.7]."""
    check_last(system, (), last)
    found = inverses_of(system, last)
    return tuple(turned_series(found[tuple(all_letters(system))]))


def least_numbers(system, letters, last):
    """The numbers of the members without right letters among the letters [18.8]."""
    check_last(system, letters, last)
    found = inverses_of(system, last)
    return tuple(product_series(turned_series(found[tuple(all_letters(system))]), found[letters]))


def all_letters(system):
    """The list of the letters."""
    return list(range(system.letters))


def check_last(system, letters, last):
    """Refuse what is no system, no lot of letters, and no last length."""
    check_system(system)
    check_letters(system, letters)
    if not is_within(last, 0, MOST_LAST):
        raise InvalidNumber(last)
