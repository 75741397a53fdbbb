"""The forms of deeds and sayings: a word for the kind, and then names, words, letters, sizes or polynomials."""

from underwords.base.integers import is_integer
from underwords.base.polys import Poly
from underwords.groups.checks import is_letter, is_word

LONGEST_NAME = 8
NAME_LETTERS = "abcdefghijklmnopqrstuvwxyz"
SAYINGS = {
    "is": ("name", "word"),
    "length": ("name", "size"),
    "left": ("name", "letter"),
    "right": ("name", "letter"),
    "under": ("name", "name"),
    "apart": ("name", "name"),
    "poly": ("name", "name", "poly"),
    "smooth": ("name",),
}
DEEDS = {
    "put": ("name", "word"),
    "take": ("name",),
    "behind": ("name", "letter"),
    "ahead": ("name", "letter"),
    "turn": ("name",),
    "join": ("name", "name", "name"),
}


def is_name(value):
    """Whether the value is a string of one to eight letters a to z."""
    if not isinstance(value, str) or not 1 <= len(value) <= LONGEST_NAME:
        return False
    return all([sign in NAME_LETTERS for sign in value])


def is_saying(system, value):
    """Whether the value is a saying, whatever names there are."""
    return has_kind(value) and is_formed(system, SAYINGS.get(value[0]), value[1:])


def is_deed(system, value):
    """Whether the value is a deed, whatever names there are."""
    return has_kind(value) and is_formed(system, DEEDS.get(value[0]), value[1:])


def has_kind(value):
    """Whether the value is a tuple that begins with a string."""
    return isinstance(value, tuple) and len(value) > 0 and isinstance(value[0], str)


def is_formed(system, kinds, parts):
    """Whether the parts are of these kinds; no kinds are told for a word that stands for none."""
    if kinds is None or len(kinds) != len(parts):
        return False
    return all([is_part(system, kind, part) for kind, part in zip(kinds, parts)])


def is_part(system, kind, part):
    """Whether a part is of a kind."""
    if kind == "name":
        return is_name(part)
    if kind == "word":
        return is_word(system, part)
    if kind == "letter":
        return is_letter(system, part)
    return is_integer(part) if kind == "size" else isinstance(part, Poly)


def names_in(saying):
    """The names of a saying, in their sequence."""
    return [part for kind, part in zip(SAYINGS[saying[0]], saying[1:]) if kind == "name"]


def needed_names(deed):
    """The names of a deed that must stand for a member, in their sequence."""
    names = [part for kind, part in zip(DEEDS[deed[0]], deed[1:]) if kind == "name"]
    return names[1:] if deed[0] in ("put", "join") else names
