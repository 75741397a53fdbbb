"""The polynomials P by the bar [9.2], from the polynomials R, in terms."""

from underwords.base.terms import added, multiplied, scaled


def p_by_r(ranks, between, rows):
    """The dict from each of the told spots, by rank, to its P and that of the last one.

    The row of a spot has R of every other spot and this one; it is () where the other one is not under this one.
    """
    top = between[-1]
    found = {top: (1,)}
    for low in between[-2::-1]:
        total = ()
        for high in list(found):
            if rows[high][low]:
                total = added(total, multiplied(rows[high][low], found[high]))
        half = (ranks[top] - ranks[low] - 1) // 2
        found[low] = scaled(total[:half + 1], -1, 0)
    return {spot: found[spot] for spot in between}
