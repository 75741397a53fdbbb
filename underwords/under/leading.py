"""Under, told for states of members (underwords.groups.states)."""

from underwords.groups.factors import is_below
from underwords.groups.states import by_length, first_state, normal_of, put_ahead, state_of


def led_down(links, state, word):
    """The state of the member to which a member is led down along a word [4.4]."""
    for letter in word:
        if is_below(state[letter]):
            state = put_ahead(links, state, letter)
    return state


def is_state_under(links, state, word):
    """Whether the member of a state is under the member of a shortest word."""
    return led_down(links, state, word) == first_state(links)


def is_word_under(links, one, word):
    """Whether the member of a word is under the member of a shortest word."""
    return is_state_under(links, state_of(links, one), word)


def taken_places(links, state, word):
    """The indices of the letters of a word that make a member shorter when it is led down along the word."""
    places = []
    for at, letter in enumerate(word):
        if is_below(state[letter]):
            places.append(at)
            state = put_ahead(links, state, letter)
    return tuple(places)


def words_under(links, word, most):
    """The normal words of the members under the member of a shortest word, by length; None if more than most."""
    # With a letter ahead that makes a member longer, its lot gets the letter put ahead of all that was in it.
    lot = {first_state(links): True}
    for letter in word[::-1]:
        for state in list(lot):
            lot[put_ahead(links, state, letter)] = True
        if len(lot) > most:
            return None
    return by_length([normal_of(links, state) for state in lot])


def covers_between(links, words):
    """The ascending pairs of indices of words, by length, with the first member under the second one, shorter by 1."""
    states = [state_of(links, word) for word in words]
    found = []
    for low in range(len(words)):
        for high in range(low + 1, len(words)):
            if len(words[high]) == len(words[low]) + 1 and is_state_under(links, states[low], words[high]):
                found.append((low, high))
    return tuple(found)
