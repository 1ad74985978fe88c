"""What counts as an integer."""


def is_integer(value):
    """Whether the value is an integer."""
    # True and False are values of int for Python, but no integers here.
    return isinstance(value, int) and not isinstance(value, bool)


def is_integer_in(value, least, greatest):
    """Whether the value is an integer from least to greatest, both counted."""
    return isinstance(value, int) and not isinstance(value, bool) and least <= value <= greatest


def are_integers_below(values, limit):
    """Whether the values are integers from 0 on that are less than the limit."""
    return all([isinstance(value, int) and not isinstance(value, bool) and 0 <= value < limit for value in values])
