"""Lots as orders: elements with ranks and covers, and likenesses of two of them."""

from underwords.base.integers import is_within
from underwords.errors import InvalidLot, InvalidNumber, InvalidOperation, TooMany
from underwords.groups.states import links_of
from underwords.under.alike import found_likeness
from underwords.under.leading import covers_between
from underwords.under.under import members_under

MAX_ELEMENTS = 120
MAX_ALIKE = 60
MAX_RANK = 40


class Lot:
    """So many elements as ranks, and the pairs that are covers."""

    def __init__(self, ranks, covers):
        if not are_ranks(ranks):
            raise InvalidLot("no tuple of 1 to 120 ranks that do not fall")
        if not are_covers(ranks, covers):
            raise InvalidLot("no ascending tuple of pairs of elements with ranks that differ by 1")
        self._ranks = ranks
        self._covers = covers
        self._lower = steps_of(len(ranks), [(high, low) for low, high in covers])
        self._upper = steps_of(len(ranks), covers)

    @property
    def ranks(self):
        """The ranks of the elements."""
        return self._ranks

    @property
    def covers(self):
        """The pairs of a lower and an upper element."""
        return self._covers

    def below(self, at):
        """The ascending tuple of the elements that the element covers."""
        check_spot(self._ranks, at)
        return self._lower[at]

    def above(self, at):
        """The ascending tuple of the elements that cover the element."""
        check_spot(self._ranks, at)
        return self._upper[at]

    def leads(self, one, other):
        """Whether one element is under the other one."""
        check_spot(self._ranks, one)
        check_spot(self._ranks, other)
        return other in reached_from(self._upper, one)

    def between(self, one, other):
        """The lot of the elements that one element is under, and that are under the other one."""
        if not self.leads(one, other):
            raise InvalidOperation("the first element is not under the second one")
        upward = reached_from(self._upper, one)
        kept = [at for at in sorted(reached_from(self._lower, other)) if at in upward]
        spots = {at: spot for spot, at in enumerate(kept)}
        covers = [(spots[low], spots[high]) for low, high in self._covers if low in spots and high in spots]
        return Lot(tuple([self._ranks[at] - self._ranks[one] for at in kept]), tuple(covers))

    def __eq__(self, other):
        return isinstance(other, Lot) and self._ranks == other._ranks and self._covers == other._covers

    def __len__(self):
        return len(self._ranks)

    def __str__(self):
        return f"lot of {len(self._ranks)} elements, {len(self._covers)} covers"


def are_ranks(value):
    """Whether the value is a tuple of the ranks of 1 to 120 elements."""
    if not isinstance(value, tuple) or not 1 <= len(value) <= MAX_ELEMENTS:
        return False
    if not all([is_within(rank, 0, MAX_RANK) for rank in value]):
        return False
    return all([rank <= following for rank, following in zip(value, value[1:])])


def are_covers(ranks, value):
    """Whether the value is an ascending tuple of covers of elements with these ranks."""
    if not isinstance(value, tuple) or not all([is_cover(ranks, pair) for pair in value]):
        return False
    return all([pair < following for pair, following in zip(value, value[1:])])


def is_cover(ranks, value):
    """Whether the value is a pair of elements of which the upper one has the rank that is greater by 1."""
    if not isinstance(value, tuple) or len(value) != 2:
        return False
    if not all([is_within(at, 0, len(ranks) - 1) for at in value]):
        return False
    return ranks[value[1]] == ranks[value[0]] + 1


def steps_of(many, pairs):
    """For each of so many elements the tuple of the elements that stand behind it in a pair."""
    steps = [[] for _ in range(many)]
    for start, end in pairs:
        steps[start].append(end)
    return tuple([tuple(row) for row in steps])


def check_spot(ranks, at):
    """Refuse what is no element."""
    if not is_within(at, 0, len(ranks) - 1):
        raise InvalidNumber(at)


def reached_from(steps, start):
    """The dict of all elements to which steps lead from one, itself among them."""
    reached = {start: True}
    now = [start]
    while now:
        ahead = []
        for at in now:
            for near in steps[at]:
                if near not in reached:
                    reached[near] = True
                    ahead.append(near)
        # A list of its own: the loop over it must not go over the list that it appends to.
        now = list(ahead)
    return reached


def lot_of(system, word):
    """The lot of a member."""
    words = members_under(system, word)
    return Lot(tuple([len(low) for low in words]), covers_between(links_of(system), words))


def check_lots(one, other):
    """Refuse the first value that is no lot."""
    if not isinstance(one, Lot):
        raise InvalidLot("the first one is no object of Lot")
    if not isinstance(other, Lot):
        raise InvalidLot("the second one is no object of Lot")


def lot_likeness(one, other):
    """Any likeness from one lot to the other one, None if there is none."""
    check_lots(one, other)
    if len(one) > MAX_ALIKE or len(other) > MAX_ALIKE:
        raise TooMany(MAX_ALIKE)
    return found_likeness(one, other)


def is_lot_likeness(one, other, value):
    """Whether the value is a likeness from one lot to the other one."""
    check_lots(one, other)
    size = len(one)
    if len(other) != size or not isinstance(value, tuple) or len(value) != size:
        return False
    if not all([is_within(at, 0, size - 1) for at in value]) or sorted(value) != list(range(size)):
        return False
    if not all([rank == other.ranks[at] for rank, at in zip(one.ranks, value)]):
        return False
    return sorted([(value[low], value[high]) for low, high in one.covers]) == list(other.covers)
