"""Systems: letters, and a bond of each two of them."""

from underwords.base.integers import is_within
from underwords.errors import InvalidNumber, InvalidOperation, InvalidSystem

MAX_LETTERS = 4
BONDS = (0, 2, 3, 4, 5, 6)


class System:
    """So many letters, with the bonds other than 2 as triples."""

    def __init__(self, letters, bonds=()):
        if not is_within(letters, 1, MAX_LETTERS):
            raise InvalidNumber(letters)
        if not are_bonds(letters, bonds):
            raise InvalidSystem("the bonds are no ascending tuple of triples of two letters and a bond")
        self._letters = letters
        self._bonds = bonds

    @classmethod
    def rows(cls, places):
        """The system of the rows of so many places."""
        if not is_within(places, 2, MAX_LETTERS + 1):
            raise InvalidNumber(places)
        return cls(places - 1, neighbours(0, places - 1))

    @classmethod
    def signed(cls, places):
        """The system of the signed rows of so many places."""
        if not is_within(places, 2, 3):
            raise InvalidNumber(places)
        return cls(places, ((0, 1, 4), *neighbours(1, places)))

    @classmethod
    def polygon(cls, bond):
        """Two letters with this bond."""
        if not is_within(bond, 0, 6) or bond not in BONDS:
            raise InvalidNumber(bond)
        return cls(2, () if bond == 2 else ((0, 1, bond),))

    @classmethod
    def twenty(cls):
        """Three letters with the bonds 5 and 3."""
        return cls(3, ((0, 1, 5), (1, 2, 3)))

    @classmethod
    def ring(cls, letters):
        """Two letters without an end, or three of which each two have the bond 3."""
        if not is_within(letters, 2, 3):
            raise InvalidNumber(letters)
        return cls(2, ((0, 1, 0),)) if letters == 2 else cls(3, ((0, 1, 3), (0, 2, 3), (1, 2, 3)))

    @property
    def letters(self):
        """How many letters there are."""
        return self._letters

    @property
    def bonds(self):
        """The triples of the bonds other than 2."""
        return self._bonds

    def bond_of(self, one, other):
        """The bond of two letters."""
        if not is_within(one, 0, self._letters - 1):
            raise InvalidNumber(one)
        if not is_within(other, 0, self._letters - 1):
            raise InvalidNumber(other)
        if one == other:
            raise InvalidOperation("a letter has no bond with itself")
        told = [bond for low, high, bond in self._bonds if (low, high) in ((one, other), (other, one))]
        return told[0] if told else 2

    def __eq__(self, other):
        return isinstance(other, System) and self._letters == other._letters and self._bonds == other._bonds

    def __str__(self):
        bonds = "".join([f", {bond} of {low} {high}" for low, high, bond in self._bonds])
        return f"{self._letters} letters{bonds}"


def neighbours(first, letters):
    """The triples for the bond 3 of neighbours, from the first letter on."""
    return tuple([(letter, letter + 1, 3) for letter in range(first, letters - 1)])


def are_bonds(letters, value):
    """Whether the value is an ascending tuple of triples, with no pair of letters twice."""
    if not isinstance(value, tuple) or not all([is_triple(letters, triple) for triple in value]):
        return False
    pairs = [(low, high) for low, high, _ in value]
    return all([one < other for one, other in zip(pairs, pairs[1:])])


def is_triple(letters, value):
    """Whether the value is a triple of two letters and a bond other than 2."""
    if not isinstance(value, tuple) or len(value) != 3:
        return False
    low, high, bond = value
    if not is_within(low, 0, letters - 1) or not is_within(high, low + 1, letters - 1):
        return False
    return is_within(bond, 0, 6) and bond != 2 and bond in BONDS
