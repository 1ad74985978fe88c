"""What most calls ask of their arguments first."""

from blockshanded.base.integers import is_integer_in
from blockshanded.base.programs import Program
from blockshanded.base.words import is_name
from blockshanded.errors import InvalidNumber, InvalidOperation, InvalidProgram, UnknownName


def check_program(value):
    """Raises an error unless the value is a program."""
    if not isinstance(value, Program):
        raise InvalidProgram("this is no program")


def check_mode(program, value):
    """Raises an error unless the value is a mode of the program."""
    if not is_integer_in(value, 0, program.modes - 1):
        raise InvalidNumber(value)


def check_word(value):
    """Raises an error unless the value is a name."""
    if not is_name(value):
        raise InvalidOperation("the word of a deed is a name")


def check_optional_word(value):
    """Raises an error unless the value is None or a name."""
    if value is not None:
        check_word(value)


def check_pair_of_names(program, one, other):
    """Raises an error unless these are a program and the names of two of its procedures."""
    check_program(program)
    check_known(program, one)
    check_known(program, other)


def check_known(program, name):
    """Raises an error unless a procedure of the program has this name."""
    if name not in program:
        raise UnknownName(name)
