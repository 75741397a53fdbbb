"""Power series as lists of integers from the exponent 0 to a last one, and the rule of the lots of letters [18.7]."""

from underwords.endless.shapes import degrees_of


def inverses_of(system, last):
    """The dict from all lots of letters I, ascending tuples, to the series 1 / W(I).

    The sum of 1 / W over the parts of I other than I, with signs, and the rule tell 1 / W(I).
    """
    found = {(): [1] + [0] * last}
    for letters in lots_of_letters(system.letters)[1:]:
        total = [0] * (last + 1)
        for part in found:
            if all([letter in letters for letter in part]):
                total = [one + sign_of(part) * other for one, other in zip(total, found[part])]
        found[letters] = solved(system, letters, total)
    return found


def lots_of_letters(many):
    """All ascending tuples of letters below many, lesser ones first."""
    lots = [()]
    for letter in range(many):
        lots = lots + [(*lot, letter) for lot in lots]
    sized = sorted([(len(lot), lot) for lot in lots])
    return [lot for _, lot in sized]


def sign_of(letters):
    """1 for a lot of an even size, -1 for one of an odd size."""
    return -1 if len(letters) % 2 else 1


def solved(system, letters, total):
    """1 / W(I), from the sum of the other ones: times the sign of I it is the opposite of the sum, for an endless lot.

    For other lots q to the power of the greatest length, times 1 / W(I), is added.
    """
    told = degrees_of(system, letters)
    greatest = len(total) if told is None else sum([degree - 1 for degree in told])
    series = []
    for at, number in enumerate(total):
        ahead = series[at - greatest] if at >= greatest else 0
        series.append(sign_of(letters) * (ahead - number))
    return series


def turned_series(series):
    """The series whose product with one that begins with 1 is 1."""
    found = [1]
    for at in range(1, len(series)):
        found.append(-sum([series[by] * found[at - by] for by in range(1, at + 1)]))
    return found


def product_series(one, other):
    """The product of two series, as far as they go."""
    return [sum([one[by] * other[at - by] for by in range(at + 1)]) for at in range(len(one))]
