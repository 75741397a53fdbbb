"""Whether one member is under another one, and papers by which this can be checked."""

from underwords.base.integers import is_within
from underwords.errors import InvalidOperation, TooMany
from underwords.groups.checks import check_words, is_word
from underwords.groups.factors import is_below
from underwords.groups.states import first_state, links_of, normal_of, normal_word, put_ahead, state_of
from underwords.under.leading import is_state_under, is_word_under, led_down, taken_places, words_under

MAX_UNDER = 120
MAX_PLACES = 2000


def is_under(system, one, other):
    """Whether the member of one word is under that of the other one."""
    check_words(system, one, other)
    links = links_of(system)
    return is_word_under(links, one, normal_word(links, other))


def under_paper(system, one, other):
    """The places of a sub-word, or a word along which something is left of the member."""
    check_words(system, one, other)
    links = links_of(system)
    state = state_of(links, one)
    word = normal_word(links, other)
    rest = led_down(links, state, word)
    if rest == first_state(links):
        return ("places", taken_places(links, state, word))
    return ("bar", word, normal_of(links, rest))


def is_under_paper(system, one, other, value):
    """Whether the value is such a paper."""
    check_words(system, one, other)
    if not isinstance(value, tuple) or not value or not isinstance(value[0], str):
        return False
    links = links_of(system)
    if value[0] == "places" and len(value) == 2:
        return is_sub_word(links, one, normal_word(links, other), value[1])
    return value[0] == "bar" and len(value) == 3 and is_bar(system, one, other, value[1:])


def is_sub_word(links, one, word, value):
    """Whether the value tells the places of a sub-word that is a shortest word of a member."""
    if not isinstance(value, tuple) or not all([is_within(at, 0, len(word) - 1) for at in value]):
        return False
    if not all([at < following for at, following in zip(value, value[1:])]):
        return False
    shortest = normal_word(links, one)
    return len(value) == len(shortest) and normal_word(links, tuple([word[at] for at in value])) == shortest


def is_bar(system, one, other, pair):
    """Whether the pair has a shortest word of the other member, and what is left of the one along it."""
    word, rest = pair
    if not is_word(system, word) or not is_word(system, rest) or not rest:
        return False
    links = links_of(system)
    shortest = normal_word(links, other)
    if len(word) != len(shortest) or normal_word(links, word) != shortest:
        return False
    return normal_of(links, led_down(links, state_of(links, one), word)) == rest


def all_places(system, one, word):
    """The ascending tuple of the places of all sub-words of the word that are shortest words of the member."""
    check_words(system, one, word)
    links = links_of(system)
    if len(normal_word(links, word)) != len(word):
        raise InvalidOperation("no shortest word")
    state = state_of(links, one)
    begun = {state: ((),)} if is_state_under(links, state, word) else {}
    # Only what is under the rest of the word is kept, so there are never more beginnings than sub-words.
    for at, letter in enumerate(word):
        begun = with_next_letter(links, begun, at, letter, word[at + 1:])
        if sum([len(begun[rest]) for rest in begun]) > MAX_PLACES:
            raise TooMany(MAX_PLACES)
    return tuple(sorted([places for rest in begun for places in begun[rest]]))


def with_next_letter(links, begun, at, letter, behind):
    """The places taken so far, by the state of what must still be taken, once the letter is taken or left out."""
    found = {}
    for state in begun:
        is_left = is_below(state[letter])
        if is_left:
            shorter = put_ahead(links, state, letter)
            found[shorter] = found.get(shorter, ()) + tuple([(*places, at) for places in begun[state]])
        if not is_left or is_state_under(links, state, behind):
            found[state] = found.get(state, ()) + begun[state]
    return found


def members_under(system, word):
    """The tuple of the normal words of the members under the member, by length, then ascending."""
    check_words(system, word)
    links = links_of(system)
    found = words_under(links, normal_word(links, word), MAX_UNDER)
    if found is None:
        raise TooMany(MAX_UNDER)
    return found
