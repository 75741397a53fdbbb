"""Rows of fractions that are told by labels, and the shares of these rows in other ones."""

from underwords.sheaf.quotients import NONE, by, inverted, opposite, plus


class Span:
    """What labelled rows span: triples of a place, a row with 1 there, and the shares of the labelled rows in it.

    Each row has 0 at the places of the rows ahead of it.
    """

    def __init__(self):
        self.held = []

    def taken_off(self, row):
        """The pair of what is left of a row, 0 at all of the places, and the shares of what was taken off."""
        left = list(row)
        shares = {}
        for place, own, told in self.held:
            factor = left[place]
            if factor != NONE:
                left = [plus(number, by(opposite(factor), more)) for number, more in zip(left, own)]
                for label in told:
                    shares[label] = plus(shares.get(label, NONE), by(factor, told[label]))
        return left, shares

    def keep(self, label, left, shares):
        """Keep the row of a label, told by what is left of it, not only 0, and the shares of what was taken off."""
        place = [at for at, number in enumerate(left) if number != NONE][0]
        factor = inverted(left[place])
        told = {other: by(opposite(factor), shares[other]) for other in shares}
        told[label] = factor
        self.held.append((place, [by(factor, number) for number in left], told))
