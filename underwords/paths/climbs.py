"""Paths in the lot of a member, told by the indices of its table (underwords.under.tables).

A climb is a pair of a member and a longer one to which a mirror leads it. Where the mirrors stand in an order, climbs
are told as a list that has for each place of the order the climbs by the mirror that stands there.
"""


def climbs_in_order(ties, roots):
    """The climbs of a lot for each root of an order."""
    climbs = {root: [] for root in roots}
    for high, row in enumerate(ties):
        for low, root in row:
            climbs[root].append((low, high))
    return [climbs[root] for root in roots]


def path_counts(ties, start):
    """For each member the dict from k to the number of the paths with k steps that lead to it from one member."""
    counts = [{} for _ in ties]
    counts[start][0] = 1
    # A member stands behind those below it, so all paths to these are counted ahead of it.
    for high, row in enumerate(ties):
        for low, _ in row:
            add_longer(counts[low], counts[high])
    return counts


def rising_counts(climbs, many, start):
    """The same for rising paths in a lot of so many members."""
    counts = [{} for _ in range(many)]
    counts[start][0] = 1
    # No member is the upper one of a climb and the lower one of another climb by the same mirror.
    for row in climbs:
        for low, high in row:
            add_longer(counts[low], counts[high])
    return counts


def add_longer(shorter, longer):
    """Count the paths to a member, made longer by a climb, among those to the member above."""
    for steps in shorter:
        longer[steps + 1] = longer.get(steps + 1, 0) + shorter[steps]


def rising_places(climbs, start, end):
    """The ascending tuple of the places of the mirrors of all rising paths from one member to another one."""
    held = {start: ((),)}
    for place, left in enumerate(left_behind(climbs, end)):
        for low, high in climbs[place]:
            if low in held:
                held[high] = held.get(high, ()) + tuple([(*places, place) for places in held[low]])
        # What cannot go on to the end is dropped, so there are never more beginnings than paths.
        held = {at: held[at] for at in held if at in left}
    return tuple(sorted(held.get(end, ())))


def left_behind(climbs, end):
    """For each place the dict of the members from which a rising path by the mirrors behind it leads to the end."""
    now = {end: True}
    found = []
    for row in climbs[::-1]:
        found.append(now)
        earlier = {at: True for at in now}
        for low, high in row:
            if high in now:
                earlier[low] = True
        now = earlier
    return found[::-1]
