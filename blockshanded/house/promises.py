"""Promises about programs."""

from blockshanded.ask.ends import can_end
from blockshanded.ask.idle import is_idle
from blockshanded.ask.words import can_do
from blockshanded.base.integers import is_integer
from blockshanded.base.words import is_name
from blockshanded.same.tables import are_alike, has_blocks_alone

# What stands behind the first word of a promise.
FORMS = {
    "ends": ("number", "number"),
    "never": ("number", "number"),
    "does": ("number", "name"),
    "bars": ("number", "name"),
    "alike": ("name", "name"),
    "idle": ("name", "name"),
}


def is_of_form(value, form):
    """Whether the value can stand in a promise where there is a number or a name."""
    return is_integer(value) and value >= 0 if form == "number" else is_name(value)


def is_promise(value):
    """Whether the value is a promise by its form."""
    if value == () or not isinstance(value[0], str) or value[0] not in FORMS:
        return False
    forms = FORMS[value[0]]
    return len(value) == 1 + len(forms) and all([is_of_form(term, form) for term, form in zip(value[1:], forms)])


def is_about_modes(program, promise):
    """Whether the numbers in a promise are modes of the program."""
    return all([not is_integer(term) or term < program.modes for term in promise])


def are_comparable(program, one, other):
    """Whether there are procedures with these names, with equally many blocks alone."""
    if one not in program or other not in program:
        return False
    both = [program[one], program[other]]
    return all([has_blocks_alone(own) for own in both]) and len(both[0].kinds) == len(both[1].kinds)


def is_kept(program, promise):
    """Whether a promise is true of the program."""
    kind, first, second = promise
    if not is_about_modes(program, promise):
        return False
    if kind == "alike":
        return are_comparable(program, first, second) and are_alike(program, first, second)
    if kind == "idle":
        has_block = first in program and (second, "block") in program[first].parameters
        return has_block and is_idle(program, first, second)
    if kind in ("ends", "never"):
        return can_end(program, first, second) == (kind == "ends")
    return can_do(program, first, second) == (kind == "does")
