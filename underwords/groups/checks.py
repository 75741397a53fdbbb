"""The checks of the arguments that many functions take."""

from underwords.base.integers import is_within
from underwords.errors import InvalidOperation, InvalidSystem, InvalidWord
from underwords.groups.systems import System

LONGEST_WORD = 40


def is_letter(system, value):
    """Whether the value is a letter of the system."""
    return is_within(value, 0, system.letters - 1)


def is_word(system, value):
    """Whether the value is a word of the system."""
    if not isinstance(value, tuple) or len(value) > LONGEST_WORD:
        return False
    return all([is_letter(system, letter) for letter in value])


def check_system(system):
    """Refuse what is no system."""
    if not isinstance(system, System):
        raise InvalidSystem("no object of System")


def check_word(system, word):
    """Refuse what is no word of the system."""
    if not is_word(system, word):
        raise InvalidWord("no tuple of at most 40 letters of the system")


def check_words(system, *words):
    """Refuse what is no system, and then the first value that is no word of it."""
    check_system(system)
    for word in words:
        check_word(system, word)


def check_letters(system, letters):
    """Refuse what is no ascending tuple of letters of the system."""
    if not isinstance(letters, tuple) or not all([is_letter(system, letter) for letter in letters]):
        raise InvalidOperation("no tuple of letters")
    if not all([one < other for one, other in zip(letters, letters[1:])]):
        raise InvalidOperation("no ascending tuple")
