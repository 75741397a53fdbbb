"""A desk: members that are kept by names, sayings that stay true of them, and moves that can be taken back."""

from underwords.base.integers import is_integer
from underwords.desk.deeds import done, holds
from underwords.desk.forms import is_deed, is_saying, names_in
from underwords.errors import InvalidNumber, InvalidOperation, NothingToUndo, Refused, TooMany, UnknownName
from underwords.groups.checks import check_system

MAX_NAME = 8
MAX_SAID = 20


class Desk:
    """Members of a system by names, and sayings about them."""

    def __init__(self, system):
        check_system(system)
        self._system = system
        # These are never changed themselves, so that moves can keep them.
        self._named = {}
        self._said = ()
        self._moves = []

    @property
    def system(self):
        """The system of the members."""
        return self._system

    @property
    def kept(self):
        """The dict from the names to the normal words."""
        return {name: self._named[name] for name in self._named}

    @property
    def sayings(self):
        """The tuple of the sayings, in the sequence in which they were said."""
        return self._said

    @property
    def past(self):
        """The number of the moves that can be taken back."""
        return len(self._moves)

    def do(self, *deeds):
        """Do the deeds, one after the other."""
        for deed in deeds:
            if not is_deed(self._system, deed):
                raise InvalidOperation("no deed")
        named = self._named
        for index, deed in enumerate(deeds):
            named = done(self._system, named, deed, index)
        check_sayings(self._system, self._named, named, self._said)
        self._move(named, self._said)

    def say(self, saying):
        """Keep a saying."""
        if not is_saying(self._system, saying):
            raise InvalidOperation("no saying")
        for name in names_in(saying):
            if name not in self._named:
                raise UnknownName(name)
        if saying not in self._said:
            if len(self._said) == MAX_SAID:
                raise TooMany(MAX_SAID)
            if not holds(self._system, self._named, saying):
                raise Refused(("false",))
            self._move(self._named, (*self._said, saying))

    def unsay(self, saying):
        """Keep a saying no more."""
        if not is_saying(self._system, saying) or saying not in self._said:
            raise UnknownName(saying)
        self._move(self._named, tuple([told for told in self._said if told != saying]))

    def is_true(self, value):
        """Whether the value is a saying that is true now."""
        if not is_saying(self._system, value) or not all([name in self._named for name in names_in(value)]):
            return False
        return holds(self._system, self._named, value)

    def undo(self, steps=1):
        """Take back the last moves."""
        if not is_integer(steps) or steps < 1:
            raise InvalidNumber(steps)
        if steps > len(self._moves):
            raise NothingToUndo(steps)
        self._named, self._said = self._moves[-steps]
        del self._moves[-steps:]

    def twin(self):
        """An equal desk with the same moves, that goes on by itself."""
        made = Desk(self._system)
        made._named = self._named
        made._said = self._said
        made._moves = list(self._moves)
        return made

    def _move(self, named, said):
        """Go over to other members and sayings, if they are unlike those that are there."""
        if named != self._named or said != self._said:
            self._moves.append((self._named, self._said))
            self._named = named
            self._said = said

    def __contains__(self, x):
        return isinstance(x, str) and x in self._named

    def __getitem__(self, at):
        if not isinstance(at, str) or at not in self._named:
            raise UnknownName(at)
        return self._named[at]

    def __iter__(self):
        return iter(self._named)

    def __len__(self):
        return len(self._named)

    def __eq__(self, other):
        if not isinstance(other, Desk) or self._system != other._system:
            return False
        return self._named == other._named and self._said == other._said

    def __str__(self):
        return f"desk of {self._system.letters} letters: {len(self._named)} members, {len(self._said)} sayings"


def check_sayings(system, before, named, sayings):
    """Refuse members of which a saying that was true before is true no more."""
    for saying in sayings:
        if not all([name in named for name in names_in(saying)]):
            raise Refused(("taken", saying))
    for saying in sayings:
        # A saying about members that have not changed is still true.
        changed = [name for name in names_in(saying) if named[name] != before[name]]
        if changed and not holds(system, named, saying):
            raise Refused(("broken", saying))
