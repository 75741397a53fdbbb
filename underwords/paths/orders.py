"""Orders of mirrors, and paths of mirrors from one member to another one."""

from underwords.errors import InvalidOrder, InvalidWord, TooMany
from underwords.groups.checks import check_system, check_words, is_word
from underwords.groups.planes import is_between
from underwords.groups.roots import inversion_roots, led, letter_root, rows_of, word_of_root
from underwords.groups.states import links_of, normal_word
from underwords.groups.words import members
from underwords.paths.climbs import climbs_in_order, path_counts, rising_counts, rising_places
from underwords.under.tables import table_of, ties_below

MAX_MEMBERS = 120
MAX_PATHS = 2000


def mirror_row(system, word):
    """The row of a shortest word: the mirrors that lead its member to what is left without one of the letters."""
    check_words(system, word)
    if len(normal_word(links_of(system), word)) != len(word):
        raise InvalidWord("no shortest word")
    return row_of_word(system, word)


def longest_member(system):
    """The normal word of the longest member."""
    return members(system)[-1]


def is_mirror_order(system, value):
    """Whether the value is an order of mirrors."""
    check_system(system)
    return order_word(system, value) is not None


def order_paper(system, row):
    """The word whose row the tuple of all mirrors is, or three mirrors by which it is no order."""
    check_system(system)
    roots = checked_row(system, row)
    word = word_of_roots(rows_of(system), roots)
    if word is not None:
        return ("word", word)
    a, b, c = broken_places(roots)
    return ("plane", row[a], row[b], row[c])


def is_order_paper(system, row, value):
    """Whether the value is such a word or such three mirrors."""
    check_system(system)
    roots = checked_row(system, row)
    if not isinstance(value, tuple) or not value or not isinstance(value[0], str):
        return False
    if value[0] == "word" and len(value) == 2:
        return is_word(system, value[1]) and value[1] == word_of_roots(rows_of(system), roots)
    if value[0] != "plane" or len(value) != 4:
        return False
    if not all([is_word(system, mirror) and mirror in row for mirror in value[1:]]):
        return False
    a, b, c = [row.index(mirror) for mirror in value[1:]]
    return is_broken(roots, a, b, c)


def word_of_order(system, order):
    """The word whose row the order is."""
    check_order(system, order)
    return order_word(system, order)


def reversed_order(system, order):
    """The order from its end."""
    check_order(system, order)
    return order[::-1]


def moved_order(system, order):
    """The order that begins with the second mirror, the first one at its end."""
    check_order(system, order)
    letter = order[0][0]
    links = links_of(system)
    return tuple([normal_word(links, (letter, *mirror, letter)) for mirror in order[1:]]) + order[:1]


def rising_paths(system, order, one, other):
    """The tuple of all rising paths from one member to the other one, ascending by the places of their mirrors."""
    counts = rising_numbers(system, order, one, other)
    if sum(counts.values()) > MAX_PATHS:
        raise TooMany(MAX_PATHS)
    if not counts:
        return ()
    table, ties = lot_with_ties(system, other)
    climbs = climbs_in_order(ties, order_roots(system, order))
    return told_paths(order, rising_places(climbs, spot_of(system, table, one), len(ties) - 1))


def longest_rising(system, order, one, other):
    """The rising path with as many steps as the difference of both lengths, None if there is no path."""
    check_order(system, order)
    check_words(system, one, other)
    table, ties = lot_with_ties(system, other)
    start = spot_of(system, table, one)
    if start is None:
        return None
    # Each step of this path makes the member longer by 1.
    short = [[(low, root) for low, root in row if len(table.words[low]) == len(word) - 1]
             for word, row in zip(table.words, ties)]
    climbs = climbs_in_order(short, order_roots(system, order))
    return told_paths(order, rising_places(climbs, start, len(ties) - 1))[0]


def is_rising(system, order, one, other, value):
    """Whether the value is a rising path from one member to the other one."""
    check_order(system, order)
    check_words(system, one, other)
    if not isinstance(value, tuple) or not all([is_word(system, mirror) and mirror in order for mirror in value]):
        return False
    places = [order.index(mirror) for mirror in value]
    table, ties = lot_with_ties(system, other)
    climbs = climbs_in_order(ties, order_roots(system, order))
    at = spot_of(system, table, one)
    for place in places:
        higher = [high for low, high in climbs[place] if low == at]
        at = higher[0] if higher else None
    return at == len(ties) - 1 and all([place < behind for place, behind in zip(places, places[1:])])


def rising_numbers(system, order, one, other):
    """The dict from k to the number of rising paths with k steps."""
    check_order(system, order)
    check_words(system, one, other)
    table, ties = lot_with_ties(system, other)
    start = spot_of(system, table, one)
    if start is None:
        return {}
    climbs = climbs_in_order(ties, order_roots(system, order))
    return ascending(rising_counts(climbs, len(ties), start)[-1])


def path_numbers(system, one, other):
    """The dict from k to the number of all paths with k steps."""
    check_words(system, one, other)
    table, ties = lot_with_ties(system, other)
    start = spot_of(system, table, one)
    return {} if start is None else ascending(path_counts(ties, start)[-1])


def least_steps(system, one, other):
    """The least number of steps of a path, None if there is no path."""
    counts = path_numbers(system, one, other)
    return min(list(counts)) if counts else None


def row_of_word(system, word):
    """The normal words of the mirrors of the row of a shortest word."""
    rows = rows_of(system)
    links = links_of(system)
    return tuple([normal_word(links, word_of_root(rows, root)) for root in inversion_roots(rows, word)])


def roots_of_mirrors(system):
    """The dict from the normal words of all mirrors to their roots, None if there are more than 120 members."""
    try:
        longest = members(system)[-1]
    except TooMany:
        return None
    roots = inversion_roots(rows_of(system), longest)
    return {mirror: root for mirror, root in zip(row_of_word(system, longest), roots)}


def order_roots(system, value):
    """The roots of a tuple of all mirrors, as normal words, each once; None for every other value."""
    roots = roots_of_mirrors(system)
    if roots is None or not isinstance(value, tuple) or len(value) != len(roots):
        return None
    if not all([is_word(system, mirror) and mirror in roots for mirror in value]):
        return None
    if len({mirror: True for mirror in value}) < len(value):
        return None
    return [roots[mirror] for mirror in value]


def order_word(system, value):
    """The word whose row an order of mirrors is, None for every other value."""
    roots = order_roots(system, value)
    return None if roots is None else word_of_roots(rows_of(system), roots)


def word_of_roots(rows, roots):
    """The word whose row has all roots above 0 in this sequence, None if there is none."""
    word = []
    left = list(roots)
    while left:
        letters = [letter for letter in range(len(rows)) if letter_root(rows, letter) == left[0]]
        if not letters:
            return None
        word.append(letters[0])
        left = [led(rows, root, letters[0]) for root in left[1:]]
    return tuple(word)


def checked_row(system, row):
    """The roots of a tuple of all mirrors."""
    roots = order_roots(system, row)
    if roots is None:
        raise InvalidOrder("no tuple of all mirrors as normal words, each once")
    return roots


def check_order(system, order):
    """Refuse what is no system, and then what is no order of its mirrors."""
    check_system(system)
    if order_word(system, order) is None:
        raise InvalidOrder("no order of mirrors")


def is_broken(roots, a, b, c):
    """Whether the root at the place c is between those at a and b, but stands outside of both."""
    return not min(a, b) < c < max(a, b) and is_between(roots[a], roots[b], roots[c])


def broken_places(roots):
    """The places of three roots that break the rule of an order."""
    many = len(roots)
    told = [(a, b, c) for b in range(many) for a in range(b) for c in range(many) if is_broken(roots, a, b, c)]
    return told[0]


def lot_with_ties(system, word):
    """The table of the lot of a member, and its ties."""
    table = table_of(system, word)
    return table, ties_below(system, table)


def spot_of(system, table, word):
    """The index of a member in a lot, None if it is not in it."""
    return table.spots.get(normal_word(links_of(system), word))


def told_paths(order, paths):
    """The tuples of the mirrors that stand in the order at the places of each path."""
    return tuple([tuple([order[place] for place in places]) for places in paths])


def ascending(counts):
    """The dict with ascending keys."""
    return {steps: counts[steps] for steps in sorted(counts)}
