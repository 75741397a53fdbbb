"""Tables, and the two bumped tables of a row."""

from underwords.base.integers import is_within
from underwords.errors import InvalidNumber, InvalidOperation, InvalidRow
from underwords.rows.rows import MOST_PLACES, check_row


def bumped(row):
    """The pair of the bumped tables of a row."""
    check_row(row)
    first, second = [], []
    for time, entry in enumerate(row):
        at = put_in(first, entry)
        if at == len(second):
            second.append([])
        second[at].append(time + 1)
    return as_tuples(first), as_tuples(second)


def row_of_tables(one, other):
    """The row that has these bumped tables."""
    if not is_table(one) or not is_table(other) or size_of(one) != size_of(other):
        raise InvalidRow("no two tables with equally many integers")
    if shape_of(one) != shape_of(other):
        raise InvalidOperation("tables of unlike shapes")
    first = [list(entries) for entries in one]
    taken = []
    # The greatest number of the second table tells the place that came last.
    for time in range(size_of(one), 0, -1):
        ends = [at for at, entries in enumerate(other) if time in entries]
        taken.append(taken_out(first, ends[0]))
    return tuple(taken[::-1])


def is_table(value):
    """Whether the value is a table with 2 to 5 integers."""
    if not isinstance(value, tuple) or not all([isinstance(entries, tuple) and entries for entries in value]):
        return False
    sizes = shape_of(value)
    if not 2 <= sum(sizes) <= MOST_PLACES or not all([low <= high for high, low in zip(sizes, sizes[1:])]):
        return False
    told = [entry for entries in value for entry in entries]
    if not all([is_within(entry, 1, len(told)) for entry in told]) or sorted(told) != list(range(1, len(told) + 1)):
        return False
    return all([is_ascending(entries) for entries in value]) and all([
        high < low for upper, lower in zip(value, value[1:]) for high, low in zip(upper, lower)
    ])


def all_tables(places):
    """The ascending tuple of all tables with so many integers."""
    if not is_within(places, 2, MOST_PLACES):
        raise InvalidNumber(places)
    found = [((1,),)]
    for entry in range(2, places + 1):
        found = [longer for table in found for longer in with_entry(table, entry)]
    return tuple(sorted(found))


def put_in(table, entry):
    """Put an integer into the rows of a table, and tell the index of the row that is longer by then."""
    for at in range(len(table)):
        greater = [told for told in table[at] if told > entry]
        if not greater:
            table[at].append(entry)
            return at
        table[at][table[at].index(greater[0])] = entry
        entry = greater[0]
    table.append([entry])
    return len(table) - 1


def taken_out(table, last):
    """Take the last integer out of a row of a table, put it back upward, and tell the integer that falls out."""
    entry = table[last].pop()
    for at in range(last - 1, -1, -1):
        less = [told for told in table[at] if told < entry]
        table[at][len(less) - 1] = entry
        entry = less[-1]
    return entry


def with_entry(table, entry):
    """The tables that have one more integer, greater than all, at the end of a row."""
    found = [(*table, (entry,))]
    for at, entries in enumerate(table):
        if at == 0 or len(entries) < len(table[at - 1]):
            found.append((*table[:at], (*entries, entry), *table[at + 1:]))
    return found


def shape_of(table):
    """The numbers of entries of the rows."""
    return [len(entries) for entries in table]


def size_of(table):
    """The number of all entries."""
    return sum(shape_of(table))


def is_ascending(entries):
    """Whether each entry is less than the next one."""
    return all([one < other for one, other in zip(entries, entries[1:])])


def as_tuples(rows):
    """The lists as tuples."""
    return tuple([tuple(entries) for entries in rows])
