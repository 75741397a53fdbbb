"""Texts of systems, elements, polynomials and lots: written, and read again."""

from underwords.algebra.elements import MAX_PARTS, Element
from underwords.base.polys import Poly
from underwords.errors import InvalidOperation, ParseError
from underwords.groups.systems import System
from underwords.text.lines import (
    element_lines, line_of, lot_lines, poly_parts, read_bond, read_cover, read_letters, read_part, read_poly,
    read_ranks, system_lines,
)
from underwords.under.lots import Lot

MOST_LINES = 300


def write(value):
    """The text of a system, an element, a polynomial or a lot."""
    if isinstance(value, Poly):
        return line_of(["poly", *poly_parts(value)])
    if isinstance(value, System):
        return "\n".join(system_lines(value))
    if isinstance(value, Element):
        return "\n".join(element_lines(value))
    if isinstance(value, Lot):
        return "\n".join(lot_lines(value))
    raise InvalidOperation("no value that has a text")


def read(text):
    """What has the text."""
    if not isinstance(text, str):
        raise ParseError(None)
    lines = [line.split(" ") for line in text.split("\n")]
    if lines[0][0] == "poly":
        return whole_poly_of(lines)
    if lines[0][0] == "lot":
        return whole_lot(lines)
    return system_or_element(lines)


def whole_poly_of(lines):
    """The polynomial of a text with one line."""
    poly = read_poly(lines[0][1:])
    if poly is None:
        raise ParseError(0)
    if len(lines) > 1:
        raise ParseError(1)
    return poly


def whole_lot(lines):
    """The lot of a text."""
    ranks = read_ranks(lines[0])
    if ranks is None:
        raise ParseError(0)
    covers = []
    for index in range(1, len(lines)):
        cover = read_cover(ranks, covers, lines[index])
        if cover is None or index >= MOST_LINES:
            raise ParseError(index)
        covers.append(cover)
    return Lot(ranks, tuple(covers))


def system_or_element(lines):
    """The system of a text, or the element if it has parts, or is told to have none."""
    first = 1 if lines[0] == ["zero"] and len(lines) > 1 else 0
    letters = read_letters(lines[first])
    if letters is None:
        raise ParseError(first)
    bonds = []
    index = first + 1
    while index < len(lines) and lines[index][0] != "part":
        bond = read_bond(letters, bonds, lines[index])
        if bond is None:
            raise ParseError(index)
        bonds.append(bond)
        index += 1
    system = System(letters, tuple(bonds))
    if first == 1 and index < len(lines):
        raise ParseError(index)
    if first == 0 and index == len(lines):
        return system
    return Element(system, read_parts(system, lines, index))


def read_parts(system, lines, start):
    """The dict from normal words to polynomials in the lines from one on."""
    entries = {}
    for index in range(start, len(lines)):
        part = read_part(system, list(entries), lines[index])
        if part is None or len(entries) == MAX_PARTS:
            raise ParseError(index)
        word, poly = part
        entries[word] = poly
    return entries
