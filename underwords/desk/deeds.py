"""What deeds make of named members, and whether sayings about them are true."""

from underwords.desk.forms import names_in, needed_names
from underwords.errors import Refused, TooMany, UnknownName
from underwords.groups.states import links_of, normal_word
from underwords.groups.words import left_letters, normal, right_letters
from underwords.ones.polys import p_poly
from underwords.ones.smooth import is_smooth
from underwords.under.under import is_under

LONGEST = 40


def done(system, kept, deed, index):
    """The dict from names to normal words behind a deed, the one at the index of its call."""
    for name in needed_names(deed):
        if name not in kept:
            raise UnknownName(name)
    changed = {name: kept[name] for name in kept if name != deed[1]}
    if deed[0] != "take":
        made = normal_word(links_of(system), made_word(kept, deed))
        if len(made) > LONGEST:
            raise Refused(("long", index))
        changed[deed[1]] = made
    return {name: changed[name] for name in sorted(changed)}


def made_word(kept, deed):
    """A word of the member that a deed makes, of any length."""
    kind, name = deed[0], deed[1]
    if kind == "put":
        return deed[2]
    if kind == "behind":
        return (*kept[name], deed[2])
    if kind == "ahead":
        return (deed[2], *kept[name])
    return kept[name][::-1] if kind == "turn" else kept[deed[2]] + kept[deed[3]]


def holds(system, kept, saying):
    """Whether a saying is true of the members; its names must stand for some."""
    kind, told = saying[0], saying[-1]
    words = [kept[name] for name in names_in(saying)]
    if kind == "is":
        return words[0] == normal(system, told)
    if kind == "length":
        return len(words[0]) == told
    if kind == "left":
        return told in left_letters(system, words[0])
    if kind == "right":
        return told in right_letters(system, words[0])
    if kind in ("under", "apart"):
        return is_under(system, words[0], words[1]) == (kind == "under")
    return is_smooth_member(system, words[0]) if kind == "smooth" else has_poly(system, words[0], words[1], told)


def has_poly(system, one, other, poly):
    """Whether P of two members is the polynomial; not, if the lot of the second one is too large."""
    try:
        return p_poly(system, one, other) == poly
    except TooMany:
        return False


def is_smooth_member(system, word):
    """Whether a member is smooth; not, if its lot is too large."""
    try:
        return is_smooth(system, word)
    except TooMany:
        return False
