"""Names: of procedures, of parameters, and of deeds."""

MAX_LETTERS = 8


def is_name(value):
    """Whether the value is a string of one to eight letters a to z."""
    if not isinstance(value, str) or not 1 <= len(value) <= MAX_LETTERS:
        return False
    # islower and isalpha would also take letters other than a to z.
    return all(["a" <= letter <= "z" for letter in value])
