"""Members as the document defines them [0.8] to [0.13], worked out slowly and straight from its words."""

import itertools

from underwords.groups.systems import System

# For i < j: c(i, j) and c(j, i), as pairs (a, b) for a + b s.
LEADS = {2: ((0, 0), (0, 0)), 3: ((1, 0), (1, 0)), 4: ((1, 0), (2, 0)), 5: ((0, 1), (0, 1)),
         6: ((1, 0), (3, 0)), 0: ((2, 0), (2, 0))}


def times(x, y):
    return (x[0] * y[0] + x[1] * y[1], x[0] * y[1] + x[1] * y[0] + x[1] * y[1])


def plus(x, y):
    return (x[0] + y[0], x[1] + y[1])


def is_positive(x):
    """Whether a + b s is above 0: compared with 0 by bounds of s that get as close as needed."""
    a, b = x
    if x == (0, 0):
        return False
    low, high = (1, 1), (2, 1)
    while True:
        ends = [a * q + b * p for p, q in (low, high)]
        if ends[0] > 0 and ends[1] > 0:
            return True
        if ends[0] < 0 and ends[1] < 0:
            return False
        # p / q below s leads to (p + q) / p above s, and the other way round.
        low, high = (high[0] + high[1], high[0]), (low[0] + low[1], low[0])


def bonds_of(system):
    found = {}
    for i, j in itertools.combinations(range(system.letters), 2):
        found[i, j] = found[j, i] = 2
    for i, j, bond in system.bonds:
        found[i, j] = found[j, i] = bond
    return found


class Model:
    """A system with its members as the tuples of the roots to which they lead the roots of the letters."""

    def __init__(self, system):
        self.system = system
        self.letters = range(system.letters)
        self.bonds = bonds_of(system)

    def number(self, i, j):
        pair = LEADS[self.bonds[i, j]]
        return pair[0] if i < j else pair[1]

    def basis(self, letter):
        return tuple((1, 0) if at == letter else (0, 0) for at in self.letters)

    def letter_leads(self, letter, row):
        """The row is the sum of its numbers times the roots of letters; each of these is led."""
        total = [(0, 0)] * len(row)
        for j in self.letters:
            image = list(self.basis(j))
            if j == letter:
                image[j] = (-1, 0)
            else:
                image[letter] = plus(image[letter], self.number(letter, j))
            total = [plus(old, times(row[j], new)) for old, new in zip(total, image)]
        return tuple(total)

    def leads(self, word, row):
        for letter in reversed(word):
            row = self.letter_leads(letter, row)
        return row

    def member(self, word):
        return tuple(self.leads(word, self.basis(letter)) for letter in self.letters)

    def levels(self, most):
        """Lists, by length up to most, of the dicts from the members to all of their shortest words."""
        first = self.member(())
        levels = [{first: [()]}]
        known = {first}
        while len(levels) <= most and levels[-1]:
            level = {}
            for words in levels[-1].values():
                for word in words:
                    for letter in self.letters:
                        longer = word + (letter,)
                        member = self.member(longer)
                        if member not in known:
                            level.setdefault(member, []).append(longer)
            known.update(level)
            levels.append({member: sorted(words) for member, words in level.items()})
        return [level for level in levels if level]

    def is_above(self, row):
        return all(not is_positive((-a, -b)) for a, b in row)


def subwords(word):
    for size in range(len(word) + 1):
        for places in itertools.combinations(range(len(word)), size):
            yield places, tuple(word[at] for at in places)


FOUR, FIVE, SQUARE, TWENTY, RING = System.rows(4), System.rows(5), System.signed(2), System.twenty(), System.ring(3)

# Finite and endless ones, every bond, rings of bonds of which no numbers are alike in both directions.
SMALL = [
    System(1), System(2), System.rows(3), SQUARE, System.polygon(5), System.polygon(6), System.polygon(0), System(3),
    FOUR, TWENTY, System.signed(3), RING, System(3, ((0, 1, 3), (0, 2, 4), (1, 2, 5))),
    System(3, ((0, 1, 6), (1, 2, 4))), System(3, ((0, 1, 4), (0, 2, 6), (1, 2, 3))),
]
BIG = [
    FIVE, System(4), System(4, ((0, 1, 0), (2, 3, 0))), System(4, ((0, 1, 5), (1, 2, 3), (2, 3, 3))),
    System(4, ((0, 1, 3), (1, 2, 4), (2, 3, 3))), System(4, ((0, 1, 0), (0, 2, 5), (0, 3, 6), (1, 2, 4), (2, 3, 3))),
]
