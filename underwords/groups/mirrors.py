"""Mirrors, their roots, and lots of mirrors."""

from underwords.base.golds import Gold, gold_of
from underwords.base.integers import is_integer
from underwords.errors import InvalidMirror, InvalidOperation, Refused, TooMany
from underwords.groups.checks import check_system, check_words, is_word
from underwords.groups.planes import broken_three, is_between, short_three, taken_off
from underwords.groups.roots import inversion_roots, led_along, mirror_root, rows_of, word_of_root
from underwords.groups.states import by_length, links_of, normal_word
from underwords.groups.words import members

MOST_LISTED = 40


def is_mirror(system, value):
    """Whether the value is a word of a mirror."""
    check_system(system)
    return root_of_value(system, value) is not None


def mirrors(system):
    """The tuple of the normal words of all mirrors, by length, then ascending."""
    check_system(system)
    return tuple([word for word in members(system) if root_of_value(system, word) is not None])


def root_of(system, mirror):
    """The root of a mirror, a tuple of golds."""
    check_system(system)
    root = root_of_value(system, mirror)
    if root is None:
        raise InvalidMirror("no word of a mirror")
    return golds_of(root)


def mirror_of(system, root):
    """The normal word of the mirror with a root."""
    check_system(system)
    check_row(system, root)
    row = numbers_of(root)
    for word in mirrors(system):
        if root_of_value(system, word) == row:
            return word
    raise Refused(("root",))


def led_root(system, word, root):
    """The row to which a word leads a row."""
    check_words(system, word)
    check_row(system, root)
    return golds_of(led_along(rows_of(system), numbers_of(root), word))


def inversions(system, word):
    """The tuple of the normal words of the inversions of a member, by length, then ascending."""
    check_words(system, word)
    rows = rows_of(system)
    links = links_of(system)
    roots = inversion_roots(rows, normal_word(links, word))
    return by_length([normal_mirror(rows, links, root) for root in roots])


def lot_paper(system, lot):
    """The member whose inversions the lot of mirrors is, or three mirrors by which it is that of none."""
    roots = checked_roots(system, lot)
    rows = rows_of(system)
    links = links_of(system)
    word, left = taken_off(rows, roots)
    if not left:
        return ("member", word)
    three = short_three(rows, roots, broken_three(rows, word, left))
    if three is None:
        raise TooMany(MOST_LISTED)
    a, b, c = [normal_mirror(rows, links, root) for root in three]
    return ("plane", a, b, c)


def is_lot_paper(system, lot, value):
    """Whether the value is such a member or such three mirrors."""
    roots = checked_roots(system, lot)
    if not isinstance(value, tuple) or not value or not isinstance(value[0], str):
        return False
    if value[0] == "member" and len(value) == 2 and is_word(system, value[1]):
        own = inversion_roots(rows_of(system), normal_word(links_of(system), value[1]))
        return sorted(own) == sorted(roots)
    return value[0] == "plane" and len(value) == 4 and is_broken(system, roots, value[1:])


def is_broken(system, roots, words):
    """Whether the words are those of three mirrors that break the rule for a lot of roots."""
    three = [root_of_value(system, word) for word in words]
    if None in three:
        return False
    a, b, c = three
    is_inside = c in roots
    return (a in roots) != is_inside and (b in roots) != is_inside and is_between(a, b, c)


def root_of_value(system, value):
    """The root of the mirror that a value is a word of, None for every other value."""
    return mirror_root(rows_of(system), links_of(system), value) if is_word(system, value) else None


def checked_roots(system, lot):
    """The roots of the mirrors of a lot."""
    check_system(system)
    if not isinstance(lot, tuple) or len(lot) > MOST_LISTED:
        raise InvalidMirror("no tuple of at most 40 words of mirrors")
    roots = [root_of_value(system, word) for word in lot]
    if None in roots:
        raise InvalidMirror("a word of the lot is none of a mirror")
    if len({root: True for root in roots}) < len(roots):
        raise InvalidMirror("two words of the lot are words of one mirror")
    return roots


def normal_mirror(rows, links, root):
    """The normal word of the mirror of a root above 0."""
    word = word_of_root(rows, root)
    if len(word) > MOST_LISTED:
        raise TooMany(MOST_LISTED)
    return normal_word(links, word)


def check_row(system, root):
    """Refuse what is no tuple of golds or integers, one for each letter."""
    if not isinstance(root, tuple) or len(root) != system.letters:
        raise InvalidOperation("no tuple of as many numbers as letters")
    if not all([isinstance(number, Gold) or is_integer(number) for number in root]):
        raise InvalidOperation("a number of the row is neither a gold nor an integer")


def numbers_of(root):
    """The row of pairs of a row of golds and integers."""
    return tuple([(number.whole, number.part) if isinstance(number, Gold) else (number, 0) for number in root])


def golds_of(row):
    """The tuple of golds of a row of pairs."""
    return tuple([gold_of(whole, part) for whole, part in row])
