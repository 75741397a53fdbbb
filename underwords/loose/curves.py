"""Curves that do not cross, between the points of an upper and of a lower line, and what they make if joined."""

from underwords.base.integers import is_within


def first_diagram(places):
    """The diagram that ties each upper point with the lower one below it."""
    return tuple(list(range(places, 2 * places)) + list(range(places)))


def tied(places, letter):
    """The diagram of a letter."""
    made = list(first_diagram(places))
    for at in (letter, places + letter):
        made[at], made[at + 1] = at + 1, at
    return tuple(made)


def are_partners(places, value):
    """Whether the value tells a partner of each point, another point, whose partner the point is."""
    if not isinstance(value, tuple) or len(value) != 2 * places:
        return False
    if not all([is_within(near, 0, 2 * places - 1) for near in value]):
        return False
    return all([near != at and value[near] == at for at, near in enumerate(value)])


def around(places):
    """The list of all points, once around: the upper ones from left to right, the lower ones from right to left."""
    return list(range(places)) + list(range(2 * places - 1, places - 1, -1))


def is_free_of_crossings(places, partners):
    """Whether each curve is closed ahead of those that were begun before it, the points being met once around."""
    begun = []
    for point in around(places):
        if begun and begun[-1] == partners[point]:
            begun.pop()
        else:
            begun.append(point)
    return not begun


def all_partners(places):
    """The list of all diagrams."""
    found = []
    for pairs in nested_pairs(around(places)):
        partners = {one: other for one, other in pairs}
        partners.update({other: one for one, other in pairs})
        found.append(tuple([partners[at] for at in range(2 * places)]))
    return found


def nested_pairs(points):
    """The lists of pairs of the points of a row that can be tied above the row without crossings."""
    if not points:
        return [[]]
    return [
        [(points[0], points[at]), *inner, *outer]
        for at in range(1, len(points), 2)
        for inner in nested_pairs(points[1:at]) for outer in nested_pairs(points[at + 1:])
    ]


def joined_curves(places, upper, lower):
    """The product of two diagrams, the upper one ahead, and the number of the closed curves."""
    seen = {}
    made = []
    for point in range(2 * places):
        made.append(followed(places, (upper, lower), point, seen))
    loops = 0
    for point in range(places):
        if point not in seen:
            loops += 1
            follow_loop(places, upper, lower, point, seen)
    return tuple(made), loops


def followed(places, pair, point, seen):
    """The outer point to which the curve leads from an outer point; the inner points that it meets are seen.

    Inner points are told by their places on the lower line of the upper diagram.
    """
    side = 0 if point < places else 1
    near = pair[side][point]
    while is_inner(places, side, near):
        at = near - places if side == 0 else near
        seen[at] = True
        side = 1 - side
        near = pair[side][at if side == 1 else at + places]
    return near


def follow_loop(places, upper, lower, point, seen):
    """See all inner points of a closed curve."""
    while point not in seen:
        across = upper[point + places] - places
        seen[point] = True
        seen[across] = True
        point = lower[across]


def is_inner(places, side, point):
    """Whether a point of the upper diagram, side 0, or of the lower one stands on the line between both."""
    return point >= places if side == 0 else point < places
