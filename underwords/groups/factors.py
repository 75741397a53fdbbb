"""The numbers c(i, j) of [0.9], by which letters lead roots, as pairs of a whole and a part."""

from underwords.base.golds import sense_of

# For each bond c(i, j) and c(j, i), i being the lesser letter.
FACTORS = {
    0: ((2, 0), (2, 0)),
    2: ((0, 0), (0, 0)),
    3: ((1, 0), (1, 0)),
    4: ((1, 0), (2, 0)),
    5: ((0, 1), (0, 1)),
    6: ((1, 0), (3, 0)),
}


def factor(system, one, other):
    """The number c(one, other)."""
    low_high, high_low = FACTORS[system.bond_of(one, other)]
    return low_high if one < other else high_low


def other_letters(system, letter):
    """The ascending list of all letters but one."""
    return [other for other in range(system.letters) if other != letter]


def triples_to(system, letter):
    """The triples (j, a, b) of all letters j with c(letter, j) = a + b s other than 0."""
    return without_zeros([(other, factor(system, letter, other)) for other in other_letters(system, letter)])


def triples_from(system, letter):
    """The triples (j, a, b) of all letters j with c(j, letter) = a + b s other than 0."""
    return without_zeros([(other, factor(system, other, letter)) for other in other_letters(system, letter)])


def without_zeros(pairs):
    """The triples of the pairs of a letter and a number, for numbers other than 0."""
    return tuple([(other, whole, part) for other, (whole, part) in pairs if whole or part])


def is_below(number):
    """Whether the number of a pair is below 0."""
    whole, part = number
    return whole < 0 if part == 0 else sense_of(whole, part) < 0
