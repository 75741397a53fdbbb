"""Flags: rows of spaces over the residues modulo 2 or 3, each one within the next, and positions of two of them."""

from underwords.base.integers import is_within
from underwords.errors import InvalidNumber, InvalidOperation, InvalidRow

FLAG_PRIMES = (2, 3)
MOST_SIZE = 4


def flag_count(prime, size):
    """How many flags there are."""
    check_prime(prime)
    check_size(size)
    count = 1
    lines = 0
    for _ in range(size):
        lines = lines * prime + 1
        count *= lines
    return count


def all_flags(prime, size):
    """Yield all flags, ascending."""
    check_prime(prime)
    check_size(size)
    flags = [()]
    for _ in range(size):
        flags = [(*flag, row) for flag in flags for row in next_rows(prime, size, flag)]
    for flag in flags:
        yield flag


def first_flag(prime, size):
    """The flag whose row at the place i has 1 at the place i alone."""
    check_prime(prime)
    check_size(size)
    return tuple([unit_row(size, place) for place in range(size)])


def far_flag(prime, size):
    """The flag with the rows of the first flag, the other way round."""
    return first_flag(prime, size)[::-1]


def is_flag(prime, value):
    """Whether the value is a flag."""
    check_prime(prime)
    if not isinstance(value, tuple) or not 1 <= len(value) <= MOST_SIZE:
        return False
    if not all([is_residue_row(prime, len(value), row) for row in value]):
        return False
    firsts = [leading_place(row) for row in value]
    for at, row in enumerate(value):
        if row[firsts[at]] != 1 or any([row[place] for place in firsts[:at]]):
            return False
    return True


def position(prime, one, other):
    """The position of one flag to the other one."""
    check_prime(prime)
    if not is_flag(prime, one):
        raise InvalidOperation("the first one is no flag")
    if not is_flag(prime, other):
        raise InvalidOperation("the second one is no flag")
    if len(one) != len(other):
        raise InvalidOperation("flags of unlike sizes")
    return position_to_first(prime, [shares_of(prime, row, other) for row in one])


def far_count(prime, row, other):
    """The number of flags with a position to the first flag, and another one to the far flag."""
    check_prime(prime)
    check_entries(row)
    check_entries(other)
    size = len(row)
    if len(other) != size:
        raise InvalidOperation("rows with unlike numbers of entries")
    flags = [()]
    # The first entries of a position hang on the first rows of a flag alone.
    for at in range(size):
        longer = [(*flag, new) for flag in flags for new in next_rows(prime, size, flag)]
        flags = [flag for flag in longer if stands(prime, flag, row[:at + 1], other[:at + 1])]
    return len(flags)


def check_prime(prime):
    """Refuse what is not one of both primes."""
    if not is_within(prime, 2, 3):
        raise InvalidNumber(prime)


def check_size(size):
    """Refuse what is no size of a flag."""
    if not is_within(size, 1, MOST_SIZE):
        raise InvalidNumber(size)


def check_entries(row):
    """Refuse what is no tuple of the integers 1 to n, each once, n from 1 to 4."""
    if not isinstance(row, tuple) or not 1 <= len(row) <= MOST_SIZE:
        raise InvalidRow("no tuple of one to four integers")
    if not all([is_within(entry, 1, len(row)) for entry in row]) or len({entry: True for entry in row}) < len(row):
        raise InvalidRow("not each of the integers from 1 on once")


def is_residue_row(prime, size, value):
    """Whether the value is a row of so many residues, not all of them 0."""
    if not isinstance(value, tuple) or len(value) != size:
        return False
    return all([is_within(entry, 0, prime - 1) for entry in value]) and any(value)


def unit_row(size, place):
    """The row with 1 at a place, and 0 elsewhere."""
    return tuple([1 if at == place else 0 for at in range(size)])


def leading_place(row):
    """The place of the first entry other than 0."""
    return [place for place, entry in enumerate(row) if entry][0]


def next_rows(prime, size, flag):
    """The ascending list of the rows that can stand behind the first rows of a flag."""
    taken = [leading_place(row) for row in flag]
    rows = [()]
    for place in range(size):
        rows = [(*row, entry) for row in rows for entry in next_entries(prime, row, place in taken)]
    return [row for row in rows if any(row)]


def next_entries(prime, row, is_taken):
    """The entries that can stand behind the first ones of a row: 0 where a row ahead has its first entry."""
    if is_taken:
        return [0]
    return list(range(prime)) if any(row) else [0, 1]


def shares_of(prime, row, flag):
    """The tuple of the multiples of the rows of a flag that add up to a row."""
    left = list(row)
    shares = []
    # At its own first place each row of the flag has 1, and those behind it have 0.
    for own in flag:
        share = left[leading_place(own)]
        left = [(entry - share * less) % prime for entry, less in zip(left, own)]
        shares.append(share)
    return tuple(shares)


def last_place(row):
    """The place of the last entry other than 0."""
    return [place for place, entry in enumerate(row) if entry][-1]


def position_to_first(prime, rows):
    """The position to the first flag of the spaces that rows span.

    Multiples of rows ahead are taken off each row until its last place is that of none of them. Then the new space
    has one more in common with the space of the first flag that reaches to this place, and with none before it.
    """
    kept = {}
    places = []
    for row in rows:
        place = last_place(row)
        while place in kept:
            # Modulo 2 and modulo 3 each residue other than 0 is its own inverse.
            factor = row[place] * kept[place][place]
            row = tuple([(entry - factor * less) % prime for entry, less in zip(row, kept[place])])
            place = last_place(row)
        kept[place] = row
        places.append(place + 1)
    return tuple(places)


def stands(prime, flag, row, other):
    """Whether the first rows of a flag have the first entries of both positions of [7.7]."""
    if position_to_first(prime, flag) != row:
        return False
    # Read from their ends, the rows of the far flag are those of the first one.
    far = position_to_first(prime, [entries[::-1] for entries in flag])
    return all([place == len(flag[0]) + 1 - entry for place, entry in zip(far, other)])
