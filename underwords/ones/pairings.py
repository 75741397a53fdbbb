"""Matchings of parts of lots [10.1], found by taking away partners that go together with none of a neighbour's.

Lots of elements are packed into integers that have the bit of each element.
"""


class Pairing:
    """The elements of a lot: for each one the bits of its neighbours in covers, of all above it and of all below it."""

    def __init__(self, lot):
        size = len(lot)
        self.size = size
        self.near = [bits_of((*lot.below(at), *lot.above(at))) for at in range(size)]
        self.over = [1 << at for at in range(size)]
        self.under = [1 << at for at in range(size)]
        for low, high in lot.covers[::-1]:
            self.over[low] = self.over[low] | self.over[high]
        for high, low in sorted([(high, low) for low, high in lot.covers]):
            self.under[high] = self.under[high] | self.under[low]


def bits_of(spots):
    """The bits of unlike elements."""
    return sum([1 << spot for spot in spots])


def spots_of(bits):
    """The ascending list of the elements that the bits tell."""
    spots = []
    while bits:
        spots.append((bits & -bits).bit_length() - 1)
        bits &= bits - 1
    return spots


def matchings_of(pairing, kept, is_first):
    """The list of the matchings of the part with the kept elements, or of any one of them, as dicts."""
    left = {at: pairing.near[at] & kept for at in spots_of(kept)}
    if 0 in list(left.values()) or not narrowed(pairing, left, list(left)):
        return []
    return completed(pairing, left, is_first)


def completed(pairing, left, is_first):
    """The matchings, or any one of them, with the partners that are left for each element."""
    decided = {at: spots_of(left[at])[0] for at in left if not left[at] & (left[at] - 1)}
    whole = [decided]
    # Partners that are decided go together with all that are left, so each piece of the others stands for itself.
    for piece in pieces_of(pairing, [at for at in left if at not in decided]):
        found = piece_matchings(pairing, {at: left[at] for at in piece}, is_first)
        if not found:
            return []
        whole = [joined(one, other) for one in whole for other in found]
    return whole


def piece_matchings(pairing, left, is_first):
    """The same for elements that hang together, each with several partners left."""
    _, at = min([(len(spots_of(left[spot])), spot) for spot in left])
    found = []
    for partner in spots_of(left[at]):
        told = {spot: left[spot] for spot in left}
        told[at] = 1 << partner
        if narrowed(pairing, told, [at]):
            found.extend(completed(pairing, told, is_first))
        if is_first and found:
            return found
    return found


def pieces_of(pairing, spots):
    """The lists of those of the elements that hang together by covers."""
    left = bits_of(spots)
    pieces = []
    while left:
        piece = left & -left
        reached = spots_of(piece)
        while reached:
            near = pairing.near[reached.pop()] & left & ~piece
            piece |= near
            reached.extend(spots_of(near))
        pieces.append(spots_of(piece))
        left &= ~piece
    return pieces


def joined(one, other):
    """Both dicts in one."""
    made = {at: one[at] for at in one}
    for at in other:
        made[at] = other[at]
    return made


def narrowed(pairing, left, changed):
    """Take partners away that go together with none of a neighbour's; whether each element keeps one."""
    waiting = list(changed)
    while waiting:
        at = waiting.pop()
        for near in spots_of(pairing.near[at]):
            if near in left:
                fitting = fitting_partners(pairing, left, near, at)
                if not fitting:
                    return False
                if fitting != left[near]:
                    left[near] = fitting
                    waiting.append(near)
    return True


def fitting_partners(pairing, left, at, near):
    """The partners left for an element that go together with one left for its neighbour."""
    # The partner of the lower one of both must be under that of the upper one, if they are no partners.
    beside = pairing.over if pairing.over[at] >> near & 1 else pairing.under
    fitting = 0
    for partner in spots_of(left[at]):
        allowed = 1 << at if partner == near else beside[partner] & ~(1 << at)
        if allowed & left[near]:
            fitting |= 1 << partner
    return fitting
