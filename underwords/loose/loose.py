"""Loose members: those no shortest word of which has a run."""

from underwords.base.integers import is_within
from underwords.errors import Refused
from underwords.groups.checks import is_word
from underwords.groups.words import members, normal, of_length, shortest_words
from underwords.loose.heaps import is_run_at, places_ahead, run_places, ties_of_word, with_run


def is_loose(system, word):
    """Whether the member is loose."""
    return run_places(system, shortest_words(system, word)[0]) is None


def loose_paper(system, word):
    """The ties of the heap of a loose member, or a shortest word of another one and the index of a run in it."""
    shortest = shortest_words(system, word)[0]
    run = run_places(system, shortest)
    if run is None:
        return ("loose", ties_of_word(system, shortest))
    stretched, at = with_run(system, shortest, run)
    return ("run", stretched, at)


def is_loose_paper(system, word, value):
    """Whether the value is one of these."""
    shortest = shortest_words(system, word)
    if not isinstance(value, tuple) or not value or not isinstance(value[0], str):
        return False
    if value[0] == "run" and len(value) == 3 and is_word(system, value[1]) and value[1] in shortest:
        return is_within(value[2], 0, len(value[1]) - 1) and is_run_at(system, value[1], value[2])
    if value[0] != "loose" or len(value) != 2 or run_places(system, shortest[0]) is not None:
        return False
    return are_pairs(value[1]) and value[1] == ties_of_word(system, shortest[0])


def heap_of(system, word):
    """The normal word of a loose member and the ties of its heap."""
    shortest = loose_word(system, word)
    return shortest, ties_of_word(system, shortest)


def readings(system, word):
    """The ascending tuple of all readings of the heap of a loose member."""
    ahead = places_ahead(system, loose_word(system, word))
    begun = [()]
    # Each beginning goes on to a reading, so there are never more beginnings than shortest words.
    for _ in ahead:
        begun = [(*places, at) for places in begun for at in range(len(ahead)) if is_next(ahead, places, at)]
    return tuple(begun)


def loose_members(system):
    """The tuple of all loose members, by length, and ascending for each length."""
    return tuple([word for word in members(system) if run_places(system, word) is None])


def loose_of_length(system, size):
    """The ascending tuple of the loose members of one length."""
    return tuple([word for word in of_length(system, size) if run_places(system, word) is None])


def loose_word(system, word):
    """The normal word of a loose member; others are refused."""
    if not is_loose(system, word):
        raise Refused(("run",))
    return normal(system, word)


def is_next(ahead, places, at):
    """Whether a place can stand behind the places that were taken."""
    return at not in places and all([place in places for place in ahead[at]])


def are_pairs(value):
    """Whether the value is a tuple of pairs of indices."""
    if not isinstance(value, tuple) or not all([isinstance(pair, tuple) and len(pair) == 2 for pair in value]):
        return False
    return all([is_within(at, 0, 39) for pair in value for at in pair])
