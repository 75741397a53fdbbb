"""Roots, rows of numbers, as letters and words lead them [0.9]. Numbers are pairs of a whole and a part."""

from underwords.groups.factors import is_below, triples_to
from underwords.groups.states import normal_word


def rows_of(system):
    """For each letter i the triples (j, a, b) of the letters j with c(i, j) = a + b s."""
    return tuple([triples_to(system, letter) for letter in range(system.letters)])


def letter_root(rows, letter):
    """The root of a letter."""
    return tuple([(1, 0) if at == letter else (0, 0) for at in range(len(rows))])


def led(rows, root, letter):
    """The row to which a letter leads a row: only its number at the letter changes."""
    whole, part = root[letter]
    whole, part = -whole, -part
    for other, more, golden in rows[letter]:
        a, b = root[other]
        whole += more * a + golden * b
        part += more * b + golden * (a + b)
    return (*root[:letter], (whole, part), *root[letter + 1:])


def led_along(rows, root, word):
    """The row to which a word leads a row, its last letter first."""
    for letter in word[::-1]:
        root = led(rows, root, letter)
    return root


def has_unlike_root(system, one, other, letter):
    """Whether two words lead the root of the letter to unlike roots."""
    rows = rows_of(system)
    root = letter_root(rows, letter)
    return led_along(rows, root, one) != led_along(rows, root, other)


def is_above(root):
    """Whether a root is above 0: its first number other than 0 tells it."""
    told = [number for number in root if number != (0, 0)]
    return not is_below(told[0])


def opposite(root):
    """The opposite of a row."""
    return tuple([(-whole, -part) for whole, part in root])


def made_above(root):
    """The one of a root and its opposite that is above 0."""
    return root if is_above(root) else opposite(root)


def lowering_letter(rows, root):
    """The least letter that leads a root above 0 to a lesser one above 0, None for the root of a letter."""
    for letter in range(len(rows)):
        whole, part = root[letter]
        lower_whole, lower_part = led(rows, root, letter)[letter]
        if is_below((lower_whole - whole, lower_part - part)) and root != letter_root(rows, letter):
            return letter
    return None


def word_of_root(rows, root):
    """A shortest word of the mirror with a root above 0; it reads alike from both ends."""
    ahead = []
    letter = lowering_letter(rows, root)
    while letter is not None:
        ahead.append(letter)
        root = led(rows, root, letter)
        letter = lowering_letter(rows, root)
    middle = [at for at, number in enumerate(root) if number != (0, 0)]
    return (*ahead, *middle, *ahead[::-1])


def inversion_roots(rows, word):
    """The roots of the inversions of a member, told by a shortest word, in the sequence of its letters."""
    return [led_along(rows, letter_root(rows, letter), word[:at]) for at, letter in enumerate(word)]


def mirror_root(rows, links, word):
    """The root of the mirror of a word, None if its member is no mirror."""
    shortest = normal_word(links, word)
    middle = len(shortest) // 2
    # A shortest word of a mirror is one of the first member if its middle letter is left out, and no other word is.
    if len(shortest) % 2 == 0 or normal_word(links, shortest[:middle] + shortest[middle + 1:]):
        return None
    return led_along(rows, letter_root(rows, shortest[middle]), shortest[:middle])
