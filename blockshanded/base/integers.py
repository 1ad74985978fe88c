"""What counts as an integer."""


def is_integer(value):
    """Whether the value is an integer."""
    # True and False are values of int for Python, but no integers here.
    return isinstance(value, int) and not isinstance(value, bool)


def is_integer_in(value, least, greatest):
    """Whether the value is an integer from least to greatest, both counted."""
    return is_integer(value) and least <= value <= greatest
