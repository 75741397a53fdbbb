"""Lots of letters that hang together, and the degrees of those with finitely many members [18.5], [18.6]."""

# The degrees of letters in a row, by the bonds of the row, the lesser one of both directions.
ROW_DEGREES = {
    (): (2,),
    (3,): (2, 3),
    (4,): (2, 4),
    (5,): (2, 5),
    (6,): (2, 6),
    (3, 3): (2, 3, 4),
    (3, 4): (2, 4, 6),
    (3, 5): (2, 6, 10),
    (3, 3, 3): (2, 3, 4, 5),
    (3, 3, 4): (2, 4, 6, 8),
    (3, 4, 3): (2, 6, 8, 12),
    (3, 3, 5): (2, 12, 20, 30),
}
STAR_DEGREES = (2, 4, 4, 6)


def degrees_of(system, letters):
    """The ascending list of the degrees of a lot of letters, None if endlessly many members are by them."""
    found = []
    left = list(letters)
    while left:
        piece = piece_of(system, left)
        told = degrees_of_piece(system, piece)
        if told is None:
            return None
        found.extend(told)
        left = [letter for letter in left if letter not in piece]
    return sorted(found)


def near_letters(system, letters, letter):
    """Those of the letters that hang together with one by a bond."""
    return [other for other in letters if other != letter and system.bond_of(letter, other) != 2]


def piece_of(system, letters):
    """The letters that hang together with the first one."""
    piece = [letters[0]]
    fresh = near_letters(system, letters, letters[0])
    while fresh:
        piece.append(fresh[0])
        fresh = [letter for letter in letters if letter not in piece and near_letters(system, piece, letter)]
    return piece


def degrees_of_piece(system, piece):
    """The degrees of letters that hang together, None if endlessly many members are by them."""
    sizes = [len(near_letters(system, piece, letter)) for letter in piece]
    if sum(sizes) != 2 * len(piece) - 2:
        return None
    if max(sizes) < 3:
        bonds = bonds_of_row(system, piece)
        return ROW_DEGREES.get(min(bonds, bonds[::-1]))
    bonds = [system.bond_of(one, other) for one in piece for other in near_letters(system, piece, one)]
    return STAR_DEGREES if max(bonds) == min(bonds) == 3 else None


def bonds_of_row(system, piece):
    """The bonds of letters in a row, from one end on."""
    ends = [letter for letter in piece if len(near_letters(system, piece, letter)) < 2]
    row = [ends[0]]
    bonds = []
    while len(row) < len(piece):
        following = [letter for letter in near_letters(system, piece, row[-1]) if letter not in row]
        bonds.append(system.bond_of(row[-1], following[0]))
        row.append(following[0])
    return tuple(bonds)
