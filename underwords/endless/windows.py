"""Windows: members of the rings of two and of three letters as rows of integers without an end."""

from underwords.base.integers import is_within
from underwords.errors import InvalidNumber, InvalidRow, TooMany
from underwords.groups.checks import check_word
from underwords.groups.states import links_of, normal_word
from underwords.groups.systems import System

LONGEST = 40
MOST_LEAST = 1000


def is_window(size, value):
    """Whether the value is a window of the size."""
    check_ring(size)
    return are_unlike_rests(size, value) and sum(value) == size * (size + 1) // 2 and fall_number(value) <= LONGEST


def window_length(size, window):
    """The length of a window."""
    check_windows(size, window)
    return fall_number(window)


def window_of(size, word):
    """The window of a word."""
    check_ring(size)
    check_word(System.ring(size), word)
    window = list(range(1, size + 1))
    for letter in word:
        window = with_letter(window, letter)
    return tuple(window)


def word_of_window(size, window):
    """The normal word of the member of a window."""
    check_windows(size, window)
    now = list(window)
    letters = []
    rights = window_rights(now)
    # Right letters are taken off, until (1, .., n) is left.
    while rights:
        now = with_letter(now, rights[0])
        letters.append(rights[0])
        rights = window_rights(now)
    return normal_word(links_of(System.ring(size)), tuple(letters[::-1]))


def window_product(size, one, other):
    """The window of the product."""
    check_windows(size, one, other)
    made = tuple([entry_at(one, place) for place in other])
    if fall_number(made) > LONGEST:
        raise TooMany(LONGEST)
    return made


def corner_number(size, window, place, least):
    """How many entries of the full row at places up to one are at least an integer."""
    check_windows(size, window)
    if not is_within(place, 1, size):
        raise InvalidNumber(place)
    if not is_within(least, -MOST_LEAST, MOST_LEAST):
        raise InvalidNumber(least)
    return number_at(window, place, least)


def window_corner(size, one, other):
    """Any corner of two windows, None if there is none."""
    check_windows(size, one, other)
    # Beyond the entries of both windows the corner numbers are equal, as the sums of both windows are.
    least, most = min(one + other) - size, max(one + other)
    for place in range(1, size + 1):
        for entry in range(least, most + 1):
            if number_at(one, place, entry) > number_at(other, place, entry):
                return place, entry
    return None


def is_window_corner(size, one, other, value):
    """Whether the value is a corner of two windows."""
    check_windows(size, one, other)
    if not isinstance(value, tuple) or len(value) != 2:
        return False
    place, least = value
    if not is_within(place, 1, size) or not isinstance(least, int) or isinstance(least, bool):
        return False
    return number_at(one, place, least) > number_at(other, place, least)


def check_ring(size):
    """Refuse what is no size."""
    if not is_within(size, 2, 3):
        raise InvalidNumber(size)


def check_windows(size, *windows):
    """Refuse what is no size, and then the first value that is no window of the size."""
    check_ring(size)
    for window in windows:
        if not is_window(size, window):
            raise InvalidRow("no window of the size")


def are_unlike_rests(size, value):
    """Whether the value is a tuple of so many integers with unlike rests."""
    if not isinstance(value, tuple) or len(value) != size:
        return False
    if not all([isinstance(entry, int) and not isinstance(entry, bool) for entry in value]):
        return False
    return len({entry % size: True for entry in value}) == size


def fall_number(window):
    """The length of the member: the sum of the rounded quotients, without signs, over all pairs of places."""
    size = len(window)
    return sum([abs((window[j] - window[i]) // size) for j in range(size) for i in range(j)])


def with_letter(window, letter):
    """The list of the entries of the window with a letter put behind its word."""
    now = list(window)
    if letter == 0:
        now[0], now[-1] = window[-1] - len(window), window[0] + len(window)
    else:
        now[letter - 1], now[letter] = window[letter], window[letter - 1]
    return now


def window_rights(window):
    """The ascending list of the right letters: those whose places have the greater entry first."""
    around = [window[-1] - len(window), *window]
    return [letter for letter in range(len(window)) if around[letter] > around[letter + 1]]


def entry_at(window, place):
    """The entry of the full row at a place."""
    turns, rest = divmod(place - 1, len(window))
    return window[rest] + turns * len(window)


def number_at(window, place, least):
    """The corner number: of each entry of the window those that stand so many turns ahead of it are looked at."""
    size = len(window)
    total = 0
    for at, entry in enumerate(window):
        turns = (entry - least) // size + 1
        total += max(turns if at < place else turns - 1, 0)
    return total
