"""The errors of the package, one class for each kind of failure."""


class HandError(ValueError):
    """What is wrong with something that was passed."""


class InvalidProgram(HandError):
    """This is no program, or cannot be a part of one."""


class InvalidMeaning(HandError):
    """These are no relations, tables or books."""


class InvalidOperation(HandError):
    """This cannot be done here."""


class InvalidCommand(HandError):
    """This is no command of the shell."""


class ParseError(HandError):
    """A line of a text has not the form of its place."""

    def __init__(self, line):
        self.line = line


class UnknownName(KeyError):
    """Nothing has this name."""

    def __init__(self, name):
        self.name = name


class InvalidNumber(IndexError):
    """This is no number of what is asked for."""

    def __init__(self, value):
        self.value = value


class NothingToUndo(LookupError):
    """So many calls cannot be taken back, or done again."""

    def __init__(self, many):
        self.many = many


class Refused(ArithmeticError):
    """The promise with this name would not be kept."""

    def __init__(self, name):
        self.name = name


class TooMany(OverflowError):
    """This is more than the limit."""

    def __init__(self, limit):
        self.limit = limit
