"""Diagrams of curves that do not cross, their products, and the loose members for which they stand."""

from underwords.algebra.elements import Element
from underwords.algebra.letters import summed
from underwords.base.integers import is_within
from underwords.base.polys import poly_of
from underwords.errors import InvalidElement, InvalidNumber, InvalidOperation, InvalidRow, Refused
from underwords.groups.checks import check_word, is_letter
from underwords.groups.systems import System
from underwords.groups.words import normal
from underwords.loose.curves import all_partners, are_partners, is_free_of_crossings, joined_curves, tied
from underwords.loose.images import diagram_along, images_along, pair_product, words_of_diagrams
from underwords.loose.loose import is_loose
from underwords.rows.rows import MOST_PLACES


def is_diagram(places, value):
    """Whether the value is a diagram of so many places."""
    check_places(places)
    return are_partners(places, value) and is_free_of_crossings(places, value)


def all_diagrams(places):
    """The ascending tuple of all diagrams of so many places."""
    check_places(places)
    return tuple(sorted(all_partners(places)))


def letter_diagram(places, letter):
    """The diagram of a letter."""
    check_places(places)
    if not is_letter(System.rows(places), letter):
        raise InvalidNumber(letter)
    return tied(places, letter)


def diagram_product(places, upper, lower):
    """The pair of the product of two diagrams and of the number of its loops."""
    check_diagram(places, upper)
    check_diagram(places, lower)
    return joined_curves(places, upper, lower)


def diagram_of(places, word):
    """The product of the diagrams along the letters of a word, and the number of the loops."""
    check_places(places)
    check_word(System.rows(places), word)
    return diagram_along(places, word)


def loose_of_diagram(places, diagram):
    """The normal word of the loose member with the diagram."""
    check_diagram(places, diagram)
    return words_of_diagrams(places)[diagram]


def loose_image(element):
    """The dict from the normal words of loose members to their polynomials in the loose image of an element."""
    if not isinstance(element, Element):
        raise InvalidElement("no object of Element")
    places = element.system.letters + 1
    if element.system != System.rows(places):
        raise InvalidOperation("no element of a system of rows")
    words = words_of_diagrams(places)
    entries = element.entries
    images = images_along(places, words, list(entries))
    total = {}
    for word in entries:
        image = images[word]
        total = summed(total, {words[low]: poly_of(image[low], 0) * entries[word] for low in image})
    return {low: total[low] for low in sorted(total)}


def loose_product(places, one, other):
    """The pair of the loose member and of the polynomial that the product of two loose members is."""
    check_places(places)
    system = System.rows(places)
    check_word(system, one)
    check_word(system, other)
    if not is_loose(system, one) or not is_loose(system, other):
        raise Refused(("run",))
    words = words_of_diagrams(places)
    upper, lower = [diagram_along(places, normal(system, word))[0] for word in (one, other)]
    made, terms = pair_product(places, words, upper, lower)
    return words[made], poly_of(terms, 0)


def check_places(places):
    """Refuse what is no number of places."""
    if not is_within(places, 2, MOST_PLACES):
        raise InvalidNumber(places)


def check_diagram(places, diagram):
    """Refuse what is no number of places, and then what is no diagram of so many."""
    if not is_diagram(places, diagram):
        raise InvalidRow("no diagram of so many places")
