"""Words of a system and their members."""

from underwords.base.integers import is_within
from underwords.errors import InvalidNumber, TooMany
from underwords.groups.checks import check_system, check_words, is_letter, is_word
from underwords.groups.exchanges import is_step, path_between
from underwords.groups.roots import has_unlike_root
from underwords.groups.states import (
    first_state, left_of, links_of, next_level, normal_of, normal_word, put_ahead, state_of, words_by,
)

MAX_WORD = 40
MAX_MEMBERS = 120
MAX_LISTED = 2000
MAX_LIKENED = 20


def normal(system, word):
    """The normal word of the member."""
    check_words(system, word)
    return normal_word(links_of(system), word)


def length(system, word):
    """The length of the member."""
    return len(normal(system, word))


def is_shortest(system, value):
    """Whether the value is a shortest word of a member."""
    check_system(system)
    return is_word(system, value) and len(normal_word(links_of(system), value)) == len(value)


def product(system, one, other):
    """The normal word of the product."""
    check_words(system, one, other)
    made = normal_word(links_of(system), one + other)
    if len(made) > MAX_WORD:
        raise TooMany(MAX_WORD)
    return made


def inverse(system, word):
    """The normal word of the undone member."""
    check_words(system, word)
    return normal_word(links_of(system), word[::-1])


def left_letters(system, word):
    """The ascending tuple of the left letters."""
    check_words(system, word)
    return tuple(left_of(state_of(links_of(system), word)))


def right_letters(system, word):
    """The ascending tuple of the right letters."""
    check_words(system, word)
    return tuple(left_of(state_of(links_of(system), word[::-1])))


def shortest_words(system, word):
    """The ascending tuple of all shortest words of the member."""
    check_words(system, word)
    links = links_of(system)
    state = state_of(links, word)
    begun = [((), state)]
    # Each beginning goes on to a shortest word, so there are never more beginnings than words.
    for _ in normal_of(links, state):
        begun = [
            ((*ahead, letter), put_ahead(links, rest, letter)) for ahead, rest in begun for letter in left_of(rest)
        ]
        if len(begun) > MAX_LISTED:
            raise TooMany(MAX_LISTED)
    return tuple([ahead for ahead, _ in begun])


def members(system):
    """The tuple of the normal words of all members, by length, and ascending for each length."""
    check_system(system)
    found = words_by(links_of(system), list(range(system.letters)), MAX_MEMBERS)
    if found is None:
        raise TooMany(MAX_MEMBERS)
    return tuple(found)


def of_length(system, size):
    """The ascending tuple of the normal words of all members of one length."""
    check_system(system)
    if not is_within(size, 0, MAX_WORD):
        raise InvalidNumber(size)
    links = links_of(system)
    level = {first_state(links): ()}
    for _ in range(size):
        level = next_level(links, level)
        if len(level) > MAX_MEMBERS:
            raise TooMany(MAX_MEMBERS)
    return tuple(sorted(level.values()))


def likeness(system, one, other):
    """A path of words between two words of one member, or a letter whose root tells two members apart."""
    check_words(system, one, other)
    if len(one) > MAX_LIKENED or len(other) > MAX_LIKENED:
        raise TooMany(MAX_LIKENED)
    for letter in range(system.letters):
        if has_unlike_root(system, one, other, letter):
            return ("unlike", letter)
    return ("path", path_between(system, links_of(system), one, other))


def is_likeness(system, one, other, value):
    """Whether the value is such a path or such a letter."""
    check_words(system, one, other)
    if not isinstance(value, tuple) or len(value) != 2 or not isinstance(value[0], str):
        return False
    kind, told = value
    if kind == "unlike":
        return is_letter(system, told) and has_unlike_root(system, one, other, told)
    return kind == "path" and is_path(system, one, other, told)


def is_path(system, one, other, value):
    """Whether the value is a tuple of words from one to the other, each one step behind the one ahead."""
    if not isinstance(value, tuple) or not 1 <= len(value) <= MAX_LISTED:
        return False
    if not all([is_word(system, word) for word in value]) or value[0] != one or value[-1] != other:
        return False
    return all([is_step(system, word, following) for word, following in zip(value, value[1:])])
