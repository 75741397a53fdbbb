"""Rows of the polynomials P in the table of a lot, by letters [9.3]: for a member w all P(u, w), in terms."""

from underwords.base.terms import added, scaled


def p_terms(table, known, at):
    """The tuple of P(u, w) for all members u of the lot, w being the one at the index; known rows are kept."""
    if at not in known:
        known[at] = made_terms(table, known, at)
    return known[at]


def made_terms(table, known, at):
    """The row of a member by those of shorter ones."""
    word = table.words[at]
    if not word:
        return ((1,), *[() for _ in table.words[1:]])
    letter, near = word[0], table.spots[word[1:]]
    row = p_terms(table, known, near)
    made = lettered(row, table.steps[letter])
    for low in range(near):
        number = mu_of(table, row, low, near)
        under = table.steps[letter][low]
        if number and under is not None and under < low:
            by = (len(word) - len(table.words[low])) // 2
            less = p_terms(table, known, low)
            made = tuple([added(terms, scaled(other, -number, by)) for terms, other in zip(made, less)])
    return tuple([trimmed(terms) for terms in made])


def lettered(row, step):
    """The polynomials of (T_s + 1) C_v, from those of C_v and where the letter s leads the members.

    Two members that the letter leads to one another get the same one. Where it leads out of the lot, there is none.
    """
    made = []
    for at, near in enumerate(step):
        if near is None:
            made.append(())
        else:
            low, high = min(at, near), max(at, near)
            made.append(added(row[low], scaled(row[high], 1, 1)))
    return made


def mu_of(table, row, low, high):
    """The integer mu(low, high), from the row of the longer member."""
    difference = len(table.words[high]) - len(table.words[low])
    terms = row[low]
    if difference % 2 == 0 or len(terms) <= (difference - 1) // 2:
        return 0
    return terms[(difference - 1) // 2]


def trimmed(terms):
    """The terms without zeros at the end."""
    while terms and terms[-1] == 0:
        terms = terms[:-1]
    return terms
