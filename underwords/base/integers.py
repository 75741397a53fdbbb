"""Which values are integers; True and False are none."""


def is_integer(value):
    """Whether the value is an integer of at most sixty digits."""
    return is_within(value, 1 - 10 ** 60, 10 ** 60 - 1)


def is_within(value, least, most):
    """Whether the value is an integer from the least to the most."""
    return isinstance(value, int) and not isinstance(value, bool) and least <= value <= most
