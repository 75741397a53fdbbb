"""Masks of words: which letters are taken, what they make, and the polynomials that their defects tell."""

from underwords.algebra.elements import element_of
from underwords.algebra.letters import by_words, check_parts, letter_times, summed, unit_entries
from underwords.base.integers import is_within
from underwords.base.polys import Poly
from underwords.errors import InvalidOperation, InvalidWord, TooMany
from underwords.groups.checks import check_words
from underwords.groups.factors import is_below
from underwords.groups.states import first_state, links_of, normal_of, normal_word, put_ahead
from underwords.groups.words import length

MAX_MASKED = 10


def masks(system, word, member):
    """The ascending tuple of all masks that make the member."""
    return tuple([mask for mask, _ in masks_of(system, word, member)])


def first_mask(system, word, member):
    """The mask with the defect 0 that makes the member, None if no mask makes it."""
    firsts = [mask for mask, many in masks_of(system, word, member) if many == 0]
    return firsts[0] if firsts else None


def made_by(system, word, mask):
    """The normal word of the member that a mask makes."""
    check_mask(system, word, mask)
    return told_mask(system, word, mask)[1]


def defect(system, word, mask):
    """The number of letters that are right letters of the member made ahead of them."""
    check_mask(system, word, mask)
    return told_mask(system, word, mask)[2]


def mask_poly(system, word, member):
    """The sum of q to the defect over all masks that make the member."""
    return poly_of_defects([many for _, many in masks_of(system, word, member)])


def mask_row(system, word):
    """The dict from all members that masks make, ascending, to the sums of q to the defect."""
    check_words(system, word)
    check_size(word)
    defects = {}
    for _, made, many in all_masks(system, word):
        defects.setdefault(made, []).append(many)
    return {made: poly_of_defects(defects[made]) for made in sorted(defects)}


def letters_product(system, word):
    """The product of all T_s + 1 along the word."""
    check_words(system, word)
    check_size(word)
    links = links_of(system)
    entries = unit_entries(links)
    # No integer is ever below 0, so no member falls out again.
    for letter in word[::-1]:
        entries = summed(letter_times(links, entries, letter, False), entries)
        check_parts(entries)
    return element_of(system, by_words(links, entries))


def strict_masks(system, word, member):
    """The ascending tuple of the masks that make the member and have 1 at each letter that is counted in the defect."""
    check_shortest(system, word, member)
    return tuple([mask for mask, _ in strict_pairs(system, word, member)])


def r_by_masks(system, word, member):
    """R of the member and of that of the word."""
    check_shortest(system, word, member)
    total = Poly(())
    for mask, many in strict_pairs(system, word, member):
        total += Poly((-1, 1)).raised(mask.count(0)).moved(many)
    return total


def is_tight(system, word):
    """Whether no mask of the word has a defect that is too great."""
    check_shortest(system, word, ())
    check_size(word)
    return first_great_mask(system, word) is None


def tight_paper(system, word):
    """That the word is tight, or a mask whose defect is too great."""
    check_shortest(system, word, ())
    check_size(word)
    mask = first_great_mask(system, word)
    return ("tight",) if mask is None else ("mask", mask)


def is_tight_paper(system, word, value):
    """Whether the value is one of these."""
    check_shortest(system, word, ())
    check_size(word)
    if not isinstance(value, tuple) or not value or not isinstance(value[0], str):
        return False
    if value[0] == "mask" and len(value) == 2 and is_mask(word, value[1]):
        _, made, many = told_mask(system, word, value[1])
        return is_great(word, made, many)
    return value == ("tight",) and first_great_mask(system, word) is None


def check_size(word):
    """Refuse a word with too many letters."""
    if len(word) > MAX_MASKED:
        raise TooMany(MAX_MASKED)


def check_shortest(system, word, member):
    """Refuse what is no system, what is no shortest word, and what is no word of a member."""
    check_words(system, word, member)
    if len(normal_word(links_of(system), word)) != len(word):
        raise InvalidWord("no shortest word")


def is_mask(word, value):
    """Whether the value is a mask of the word."""
    return isinstance(value, tuple) and len(value) == len(word) and all([is_within(entry, 0, 1) for entry in value])


def check_mask(system, word, mask):
    """Refuse what is no system, no word and no mask of it, and then a word with too many letters."""
    check_words(system, word)
    if not is_mask(word, mask):
        raise InvalidOperation("no mask of the word")
    check_size(word)


def grown(links, begun, letter, entries):
    """Triples of a mask, the state of the undone member that it makes, and its defect, each mask with one entry more.

    The right letters of a member are the left letters of the undone one.
    """
    found = []
    for mask, state, many in begun:
        defects = many + 1 if is_below(state[letter]) else many
        for entry in entries:
            found.append(((*mask, entry), put_ahead(links, state, letter) if entry else state, defects))
    return found


def told_mask(system, word, mask):
    """The triple of a mask, the normal word of the member that it makes, and its defect."""
    links = links_of(system)
    begun = [((), first_state(links), 0)]
    for letter, entry in zip(word, mask):
        begun = grown(links, begun, letter, (entry,))
    return with_words(links, begun)[0]


def all_masks(system, word):
    """The ascending list of such triples for all masks of a word."""
    links = links_of(system)
    begun = [((), first_state(links), 0)]
    for letter in word:
        begun = grown(links, begun, letter, (0, 1))
    return with_words(links, begun)


def with_words(links, triples):
    """The triples with the normal words of the members in the place of the states of the undone ones."""
    states = {state: True for mask, state, many in triples}
    words = {state: normal_word(links, normal_of(links, state)[::-1]) for state in states}
    return [(mask, words[state], many) for mask, state, many in triples]


def masks_of(system, word, member):
    """The ascending list of the pairs of a mask that makes the member and of its defect."""
    check_words(system, word, member)
    check_size(word)
    low = normal_word(links_of(system), member)
    return [(mask, many) for mask, made, many in all_masks(system, word) if made == low]


def poly_of_defects(defects):
    """The sum of q to all defects."""
    return Poly(tuple([defects.count(many) for many in range(max(defects, default=-1) + 1)]))


def strict_pairs(system, word, member):
    """Those of the pairs whose mask has 1 at each letter that is counted in its defect."""
    size = length(system, member)
    # The letters counted with 1 are all that are counted exactly if [11.2] holds with the defect in their place.
    return [(mask, many) for mask, many in masks_of(system, word, member)
            if size == len(word) - mask.count(0) - 2 * many]


def is_great(word, made, many):
    """Whether a mask of a shortest word that makes a member with a defect keeps the word from being tight."""
    return len(made) < len(word) and 2 * many > len(word) - len(made) - 1


def first_great_mask(system, word):
    """The first mask whose defect is too great, None if there is none."""
    great = [mask for mask, made, many in all_masks(system, word) if is_great(word, made, many)]
    return great[0] if great else None
