"""The lot of a member as a table: its members by indices, and where letters and mirrors lead them."""

from underwords.groups.roots import led, letter_root, rows_of
from underwords.groups.states import first_state, links_of, put_ahead
from underwords.under.under import members_under


class LotTable:
    """The words of a lot, by length, their indices, and for each letter the indices of its products with the words.

    The end of a normal word is a normal word, of a member under the first one. So the table is made, and gone
    through, by taking off first letters. A product that is not in the lot has None in the place of an index.
    """

    def __init__(self, links, words):
        states = {(): first_state(links)}
        for word in words[1:]:
            states[word] = put_ahead(links, states[word[1:]], word[0])
        spots = {states[word]: at for at, word in enumerate(words)}
        self.words = words
        self.spots = {word: at for at, word in enumerate(words)}
        self.steps = tuple([
            tuple([spots.get(put_ahead(links, states[word], letter)) for word in words]) for letter in range(len(links))
        ])


def table_of(system, word):
    """The table of the lot of a member; what is no system, and no word of it, is refused."""
    words = members_under(system, word)
    return LotTable(links_of(system), words)


def ties_below(system, table):
    """For each member of a lot the pairs (x, root) of the members x below it to which a mirror with the root leads it.

    The mirrors are its inversions, so they lead it to what is left of its normal word without one of the letters.
    """
    rows = rows_of(system)
    ties = [()]
    for word in table.words[1:]:
        letter, rest = word[0], table.spots[word[1:]]
        behind = [(table.steps[letter][low], led(rows, root, letter)) for low, root in ties[rest]]
        ties.append(((rest, letter_root(rows, letter)), *behind))
    return tuple(ties)
