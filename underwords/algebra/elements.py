"""The algebra: sums of members, multiplied by polynomials."""

from underwords.algebra.letters import (
    by_states, by_words, check_parts, combined, letter_times, never_shrinks, parts_along, summed, unit_entries,
    without_zeros,
)
from underwords.base.polys import Poly
from underwords.errors import InvalidElement, InvalidNumber, InvalidOperation, InvalidPoly, TooMany
from underwords.groups.checks import check_system, check_word, check_words, is_letter, is_word
from underwords.groups.states import links_of, normal_word

MAX_PARTS = 120
LONGEST = 40


class Element:
    """A sum of members T(w), each one multiplied by a polynomial."""

    def __init__(self, system, entries):
        check_system(system)
        if not are_entries(system, entries):
            raise InvalidElement("no dict from words of the system to objects of Poly")
        kept = merged(system, entries)
        check_parts(kept)
        self._system = system
        self._entries = kept

    @property
    def system(self):
        """The system of the members."""
        return self._system

    @property
    def entries(self):
        """The dict from the normal words of the members to their polynomials."""
        return {word: self._entries[word] for word in self._entries}

    def poly_of(self, word):
        """The polynomial of a member."""
        check_word(self._system, word)
        return self._entries.get(normal_word(links_of(self._system), word), Poly(()))

    def bar(self):
        """The element with 1 / q in the place of q, and the back of T of the undone member in that of T of each."""
        links = links_of(self._system)
        parts = parts_along(links, list(self._entries), unit_entries(links), True, True)
        turned = {word: self._entries[word].turned() for word in self._entries}
        return element_of(self._system, by_words(links, combined(turned, parts)))

    def undone(self):
        """The element with T of the undone member in the place of T of a member."""
        turned = {word[::-1]: self._entries[word] for word in self._entries}
        return element_of(self._system, merged(self._system, turned))

    def times(self, poly):
        """The element multiplied by a polynomial."""
        if not isinstance(poly, Poly):
            raise InvalidPoly("no object of Poly")
        return element_of(self._system, without_zeros({word: self._entries[word] * poly for word in self._entries}))

    def __add__(self, other):
        if not isinstance(other, Element):
            return NotImplemented
        check_alike(self, other)
        return element_of(self._system, ascending(summed(self._entries, other._entries)))

    def __sub__(self, other):
        if not isinstance(other, Element):
            return NotImplemented
        check_alike(self, other)
        opposite = {word: -other._entries[word] for word in other._entries}
        return element_of(self._system, ascending(summed(self._entries, opposite)))

    def __mul__(self, other):
        if not isinstance(other, Element):
            return NotImplemented
        check_alike(self, other)
        if longest_size(self._entries) + longest_size(other._entries) > LONGEST:
            raise TooMany(LONGEST)
        links = links_of(self._system)
        is_growing = never_shrinks(self._entries, other._entries)
        parts = parts_along(links, list(self._entries), by_states(links, other._entries), False, is_growing)
        return element_of(self._system, by_words(links, combined(self._entries, parts)))

    def __eq__(self, other):
        return isinstance(other, Element) and self._system == other._system and self._entries == other._entries

    def __bool__(self):
        return bool(self._entries)

    def __len__(self):
        return len(self._entries)

    def __str__(self):
        return str(element_text(self._entries))


def element_of(system, entries):
    """The element with ascending normal words and polynomials that were worked out, so that they may be longer."""
    check_parts(entries)
    made = Element(system, {})
    made._entries = entries
    return made


def are_entries(system, value):
    """Whether the value is a dict from words to polynomials."""
    if not isinstance(value, dict):
        return False
    return all([is_word(system, word) and isinstance(value[word], Poly) for word in value])


def merged(system, entries):
    """The entries with ascending normal words, those of one member added up, without the polynomial 0."""
    links = links_of(system)
    zero = Poly(())
    total = {}
    for word in entries:
        low = normal_word(links, word)
        total[low] = total.get(low, zero) + entries[word]
    return ascending(without_zeros(total))


def ascending(entries):
    """The entries with ascending keys."""
    return {word: entries[word] for word in sorted(entries)}


def check_alike(one, other):
    """Refuse two elements of unlike systems."""
    if one.system != other.system:
        raise InvalidOperation("elements of unlike systems")


def longest_size(entries):
    """The greatest length of a member, 0 if there is none."""
    return max([len(word) for word in entries], default=0)


def element_text(entries):
    """The text of the element with these entries."""
    parts = []
    for word in entries:
        letters = " ".join([str(letter) for letter in word])
        parts.append(f"({entries[word]}) T({letters})")
    return " + ".join(parts) if parts else "0"


def t_element(system, word):
    """T of a member."""
    check_words(system, word)
    return Element(system, {word: Poly((1,))})


def unit_element(system):
    """T of the first member."""
    check_system(system)
    return Element(system, {(): Poly((1,))})


def letter_element(system, letter):
    """T of a letter."""
    check_system(system)
    if not is_letter(system, letter):
        raise InvalidNumber(letter)
    return Element(system, {(letter,): Poly((1,))})


def back_of(system, word):
    """The element whose product with T of the member is 1."""
    check_words(system, word)
    links = links_of(system)
    # The back of a product has the backs of its factors in the other sequence.
    turned = normal_word(links, word)[::-1]
    parts = parts_along(links, [turned], unit_entries(links), True, True)
    return element_of(system, by_words(links, parts[turned]))


def product_along(system, word):
    """The product of T of the letters along a word."""
    check_words(system, word)
    links = links_of(system)
    entries = unit_entries(links)
    for letter in word[::-1]:
        entries = letter_times(links, entries, letter, False)
        check_parts(entries)
    return element_of(system, by_words(links, entries))
