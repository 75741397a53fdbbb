"""The members between two, their numbers, and the ladders between them."""

from underwords.errors import InvalidOperation
from underwords.groups.checks import check_words
from underwords.groups.states import links_of, normal_word
from underwords.under.leading import covers_between, is_word_under
from underwords.under.under import is_under, members_under


def interval(system, one, other):
    """The members that one member is under, and that are under the other one, by length, then ascending."""
    check_words(system, one, other)
    links = links_of(system)
    return tuple([word for word in members_under(system, other) if is_word_under(links, one, word)])


def numbers(system, word):
    """How many members of each length are under the member."""
    sizes = [len(low) for low in members_under(system, word)]
    return tuple([sizes.count(size) for size in range(sizes[-1] + 1)])


def moebius(system, one, other):
    """The Moebius number of two members."""
    found = interval(system, one, other)
    if not found:
        return 0
    return -1 if (len(found[-1]) - len(found[0])) % 2 else 1


def covers_of(system, word):
    """The ascending tuple of the members under the member that are shorter by 1."""
    lot = members_under(system, word)
    return tuple([low for low in lot if len(low) == len(lot[-1]) - 1])


def ladder_number(system, one, other):
    """How many ladders lead from one member to the other one."""
    found = interval(system, one, other)
    if not found:
        return 0
    counts = [1] + [0] * (len(found) - 1)
    # The members stand by length, so all ladders to a member are counted ahead of those that go on from it.
    for low, high in covers_between(links_of(system), found):
        counts[high] = counts[high] + counts[low]
    return counts[-1]


def middle_pair(system, one, other):
    """The two members between two members of which the one is under the other one, and shorter by 2."""
    check_words(system, one, other)
    links = links_of(system)
    low, high = normal_word(links, one), normal_word(links, other)
    if len(high) != len(low) + 2 or not is_under(system, low, high):
        raise InvalidOperation("the first member is not under the second one, and shorter by 2")
    return interval(system, low, high)[1:3]
