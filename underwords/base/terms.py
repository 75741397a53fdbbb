"""Polynomials without exponents below 0 as tuples of integers, from the exponent 0 on: quick ones, for many of them."""


def added(one, other):
    """The sum of both."""
    longer, shorter = (one, other) if len(one) >= len(other) else (other, one)
    return tuple([first + second for first, second in zip(longer, shorter)]) + longer[len(shorter):]


def scaled(terms, number, by):
    """The terms multiplied by an integer and by q to the power by."""
    return (0,) * by + tuple([number * term for term in terms]) if terms else ()


def multiplied(one, other):
    """The product of both."""
    total = ()
    for by, number in enumerate(other):
        if number:
            total = added(total, scaled(one, number, by))
    return total


def stepped(one, other):
    """The polynomial q one + (q - 1) other, a step of the polynomials R [0.15]; () only if both are ()."""
    if not one and not other:
        return ()
    return added((0, *added(one, other)), scaled(other, -1, 0))
