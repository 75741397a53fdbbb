"""Lines of texts: those of values, and what is read from one line; None stands for what cannot be read."""

from underwords.base.polys import MAX_COEFFICIENTS, Poly, is_exponent
from underwords.base.signs import is_digits
from underwords.groups.checks import is_word
from underwords.groups.states import links_of, normal_word
from underwords.groups.systems import MAX_LETTERS, is_triple
from underwords.under.lots import are_ranks, is_cover


def line_of(parts):
    """The line with these parts."""
    return " ".join([str(part) for part in parts])


def poly_parts(poly):
    """The lowest exponent and the integers of a polynomial."""
    return [poly.lowest, *poly.coefficients]


def system_lines(system):
    """The lines of a system."""
    return [line_of(["system", system.letters]), *[line_of(triple) for triple in system.bonds]]


def element_lines(element):
    """The lines of an element."""
    entries = element.entries
    begun = system_lines(element.system) if entries else ["zero", *system_lines(element.system)]
    return begun + [line_of(["part", *word, ":", *poly_parts(entries[word])]) for word in entries]


def lot_lines(lot):
    """The lines of a lot."""
    return [line_of(["lot", *lot.ranks]), *[line_of(pair) for pair in lot.covers]]


def read_integers(parts):
    """The tuple of the integers that the parts of a line are."""
    if not all([is_numeral(part) for part in parts]):
        return None
    return tuple([int(part) for part in parts])


def is_numeral(text):
    """Whether the text is that of an integer, as it is written."""
    digits = text[1:] if text.startswith("-") else text
    return is_digits(digits) and (text == "0" or not digits.startswith("0"))


def read_poly(parts):
    """The polynomial of the lowest exponent and the integers."""
    told = read_integers(parts)
    if not told or not is_exponent(told[0]) or len(told) > MAX_COEFFICIENTS + 1:
        return None
    if len(told) == 1:
        return Poly(()) if told == (0,) else None
    return Poly(told[1:], told[0]) if told[1] and told[-1] else None


def read_letters(parts):
    """The number of letters that the line of a system tells."""
    told = read_integers(parts[1:])
    if parts[0] != "system" or told is None or len(told) != 1:
        return None
    return told[0] if 1 <= told[0] <= MAX_LETTERS else None


def read_bond(letters, bonds, parts):
    """The triple of a line of a bond behind other ones."""
    triple = read_integers(parts)
    if triple is None or not is_triple(letters, triple):
        return None
    return triple if not bonds or bonds[-1][:2] < triple[:2] else None


def read_part(system, words, parts):
    """The pair of the normal word and the polynomial of a line of a part behind others with these words."""
    if parts[0] != "part" or ":" not in parts:
        return None
    colon = parts.index(":")
    word, poly = read_integers(parts[1:colon]), read_poly(parts[colon + 1:])
    if word is None or not poly or not is_word(system, word) or normal_word(links_of(system), word) != word:
        return None
    return (word, poly) if not words or words[-1] < word else None


def read_ranks(parts):
    """The ranks that the first line of a lot tells."""
    ranks = read_integers(parts[1:])
    return ranks if parts[0] == "lot" and are_ranks(ranks) else None


def read_cover(ranks, covers, parts):
    """The pair of a line of a cover behind other ones."""
    pair = read_integers(parts)
    if pair is None or not is_cover(ranks, pair):
        return None
    return pair if not covers or covers[-1] < pair else None
