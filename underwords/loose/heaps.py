"""The order of the places of a shortest word: which letters stay ahead of which ones when others are exchanged.

The words of this order are those to which the word is led by exchanges of letters with the bond 2. If none of them has
a run, no other exchange ever applies. One of them has a run exactly if letters i, j, i .. as many as their bond tells
stand in the order with nothing else between the first and the last one of them.
"""


def places_ahead(system, word):
    """For each place of a word the dict of True from the places ahead of it."""
    ahead = []
    for at, letter in enumerate(word):
        found = {}
        for place in range(at):
            if word[place] == letter or system.bond_of(word[place], letter) != 2:
                found[place] = True
                found.update(ahead[place])
        ahead.append(found)
    return ahead


def ties_of_word(system, word):
    """The ascending tuple of the pairs of a place ahead of another one, with no place between them."""
    ahead = places_ahead(system, word)
    return tuple(sorted([
        (low, high) for high in range(len(word)) for low in ahead[high]
        if not any([low in ahead[middle] for middle in ahead[high]])
    ]))


def run_places(system, word):
    """The places of the letters of a run that exchanges of letters with the bond 2 can bring together, or None."""
    ahead = places_ahead(system, word)
    for one in range(system.letters):
        for other in range(one + 1, system.letters):
            bond = system.bond_of(one, other)
            places = [at for at, letter in enumerate(word) if letter in (one, other)]
            for start in range(len(places) - bond + 1 if bond > 2 else 0):
                run = places[start:start + bond]
                if is_alternating(word, run) and is_together(ahead, run):
                    return run
    return None


def is_alternating(word, run):
    """Whether no two places of the run, one behind the other, have one letter."""
    return all([word[at] != word[behind] for at, behind in zip(run, run[1:])])


def is_together(ahead, run):
    """Whether no place stands between the first and the last one of the run but those of it."""
    return not any([run[0] in ahead[place] and place not in run for place in ahead[run[-1]]])


def with_run(system, word, run):
    """The word with the letters of a run brought together, and the index at which the run begins."""
    ahead = places_ahead(system, word)
    last = [at for at in range(len(word)) if at not in run and any([place in ahead[at] for place in run])]
    first = [at for at in range(len(word)) if at not in run and at not in last]
    return tuple([word[at] for at in [*first, *run, *last]]), len(first)


def is_run_at(system, word, at):
    """Whether a run begins at the index of a word."""
    if at + 1 >= len(word) or word[at] == word[at + 1]:
        return False
    bond = system.bond_of(word[at], word[at + 1])
    stretch = word[at:at + bond]
    return bond > 2 and len(stretch) == bond and stretch == (word[at:at + 2] * bond)[:bond]
