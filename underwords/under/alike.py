"""Likenesses of lots as orders, found by colours that are split until they tell the elements apart.

The elements of both lots stand in one graph: those of the first lot are told by their indices, those
of the second one by their indices and the size of the first one. Elements are neighbours if they
stand in a cover. A colouring is a dict from elements to integers; a likeness keeps colours.
"""


def graph_of(one, other):
    """The tuple of the neighbours of each element of both lots."""
    size = len(one)
    first = [(*one.below(at), *one.above(at)) for at in range(size)]
    second = [(*other.below(at), *other.above(at)) for at in range(len(other))]
    return tuple(first + [tuple([size + near for near in row]) for row in second])


def found_likeness(one, other):
    """Any likeness from one lot to the other one, None if there is none."""
    if one.ranks != other.ranks or len(one.covers) != len(other.covers):
        return None
    size = len(one)
    colours = {at: rank for at, rank in enumerate(one.ranks + other.ranks)}
    pairs = matched(graph_of(one, other), colours, size)
    return None if pairs is None else tuple([pairs[at] - size for at in range(size)])


def matched(graph, colours, size):
    """A dict from the coloured elements of the first lot to those of the second one, None if there is none."""
    colours = refined(graph, colours)
    first = cells_of(colours, 0, size)
    second = cells_of(colours, size, len(graph))
    if sizes_of(first) != sizes_of(second):
        return None
    # Whether elements of two pieces are neighbours hangs on their colours alone, so each piece is matched by itself;
    # a piece that is alike to several ones may be given to any of them.
    left = pieces_of(graph, colours, second)
    pairs = {}
    for piece in pieces_of(graph, colours, first):
        found = None
        for other in left:
            found = matched_piece(graph, colours, size, piece, other)
            if found is not None:
                left = [rest for rest in left if rest != other]
                break
        if found is None:
            return None
        pairs.update(found)
    return pairs


def matched_piece(graph, colours, size, piece, other):
    """A dict from the elements of a piece of the first lot to those of one of the second lot, or None."""
    told = sorted([colours[at] for at in piece])
    if told != sorted([colours[at] for at in other]):
        return None
    if len(piece) == 1:
        return {piece[0]: other[0]}
    # An element of the rarest colour is led to each one of this colour in turn, until the rest can be led, too.
    rarest = min([(told.count(colour), colour) for colour in told])[1]
    one = [at for at in piece if colours[at] == rarest][0]
    for mate in [at for at in other if colours[at] == rarest]:
        kept = {at: colours[at] for at in piece + other}
        kept[one] = kept[mate] = max(told) + 1
        found = matched(graph, kept, size)
        if found is not None:
            return found
    return None


def refined(graph, colours):
    """The colours split by the colours of the neighbours, until this splits no more."""
    many = len({colours[at]: True for at in colours})
    while True:
        marks = {at: (colours[at], tuple(sorted([colours[near] for near in graph[at] if near in colours])))
                 for at in colours}
        ranked = {mark: number for number, mark in enumerate(sorted({marks[at]: True for at in marks}))}
        colours = {at: ranked[marks[at]] for at in marks}
        if len(ranked) == many:
            return colours
        many = len(ranked)


def cells_of(colours, low, high):
    """The dict from the colours to the lists of the elements from low to high - 1 that have them."""
    cells = {}
    for at in sorted(colours):
        if low <= at < high:
            cells.setdefault(colours[at], []).append(at)
    return cells


def sizes_of(cells):
    """How many elements each colour has."""
    return {colour: len(cells[colour]) for colour in cells}


def pieces_of(graph, colours, cells):
    """The lists of the elements of one lot that hang together by ties."""
    pieces = []
    reached = {}
    for start in [at for colour in sorted(cells) for at in cells[colour]]:
        if start not in reached:
            reached[start] = True
            piece = [start]
            at = 0
            while at < len(piece):
                for near in ties_of(graph, colours, cells, piece[at]):
                    if near not in reached:
                        reached[near] = True
                        piece.append(near)
                at += 1
            pieces.append(sorted(piece))
    return pieces


def ties_of(graph, colours, cells, at):
    """The elements tied to one: of each colour its neighbours, or all others if these are fewer."""
    near = {other: True for other in graph[at] if other in colours}
    ties = []
    for colour in sorted({colours[other]: True for other in near}):
        inside = [other for other in cells[colour] if other in near]
        outside = [other for other in cells[colour] if other not in near]
        ties.extend(inside if len(inside) <= len(outside) else outside)
    return ties
