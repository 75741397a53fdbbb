"""Rows of the polynomials R in the table of a lot: for a member w the tuple of R(u, w) for all members u, in terms."""

from underwords.base.terms import stepped


def first_row(table):
    """The row of the first member."""
    return ((1,), *[() for _ in table.words[1:]])


def next_row(table, row, letter):
    """The row of the product of a letter and a member, longer than the member, from the row of the member.

    The letter is a left letter of the product, so [0.15] tells it, on the left. What the letter leads out of the lot
    is not under the product.
    """
    made = []
    for at, near in enumerate(table.steps[letter]):
        if near is None:
            made.append(())
        elif near < at:
            made.append(row[near])
        else:
            made.append(stepped(row[near], row[at]))
    return tuple(made)


def greatest_row(table):
    """The row of the greatest member of the lot."""
    row = first_row(table)
    for letter in table.words[-1][::-1]:
        row = next_row(table, row, letter)
    return row


def all_rows(table):
    """The rows of all members of the lot."""
    rows = [first_row(table)]
    for word in table.words[1:]:
        rows.append(next_row(table, rows[table.spots[word[1:]]], word[0]))
    return rows
