"""Editions of programs: what is lost if terms are left out, or procedures exchanged."""

from blockshanded.base.checks import check_known, check_pair_of_names, check_program
from blockshanded.base.integers import is_integer_in
from blockshanded.base.procedures import Procedure
from blockshanded.base.programs import Program
from blockshanded.base.terms import all_parts, parts_in, with_parts
from blockshanded.errors import InvalidNumber, InvalidOperation
from blockshanded.mean.books import MAIN, root_relation, solved
from blockshanded.mean.relations import pairs_of


def choices_in(body):
    """The "or" terms of a body, in the order in which they begin in its text."""
    return [part for part in all_parts(body) if part[0] == "or"]


def without_option(part, number, index):
    """A term or wrap without the term with an index in the "or" with a number, both counted from here on."""
    if part[0] == "or":
        if number == 0:
            return part[:1 + index] + part[2 + index:]
        number -= 1
    parts = []
    for inner in parts_in(part):
        many = len(choices_in(inner))
        # A number that is too great, or below 0, is not met in this part.
        parts.append(without_option(inner, number, index) if 0 <= number < many else inner)
        number -= many
    return with_parts(part, parts)


def edition_without(program, name, number, index):
    """The program without an option of an "or" that has another one."""
    own = program[name]
    return program.with_procedure(Procedure(name, own.parameters, without_option(own.body, number, index)))


def without_term(program, name, number, index):
    """The program without the term with an index in the "or" with a number in the body of a procedure."""
    check_program(program)
    check_known(program, name)
    choices = choices_in(program[name].body)
    if not is_integer_in(number, 0, len(choices) - 1):
        raise InvalidNumber(number)
    many = len(choices[number]) - 1
    if not is_integer_in(index, 0, many - 1):
        raise InvalidNumber(index)
    if many == 1:
        raise InvalidOperation("this is the only term")
    return edition_without(program, name, number, index)


def calling_other(part, one, other):
    """A term or wrap in which calls and wraps of a procedure are of another one."""
    changed = with_parts(part, [calling_other(inner, one, other) for inner in parts_in(part)])
    if part[0] in ("call", "with") and part[1] == one:
        return (part[0], other) + changed[2:]
    return changed


def exchanged(program, one, other):
    """The program in which all calls and wraps of a procedure are of another one."""
    check_pair_of_names(program, one, other)
    if program[one].kinds != program[other].kinds:
        raise InvalidOperation("the procedures have not the same kinds of parameters")
    procedures = [Procedure(own.named, own.parameters, calling_other(own.body, one, other))
                  for own in program.procedures]
    return Program(program.modes, *procedures)


def main_relation(program):
    """The true relation of the main procedure."""
    return root_relation(solved(program, MAIN, None))


def lost_by(relation, other):
    """The relation of the pairs that are lost from one relation to another one."""
    return relation ^ (relation & main_relation(other))


def ends_lost(program, other):
    """The pairs of a mode and an end for which there is a run of the first program alone, ascending."""
    check_program(program)
    check_program(other)
    if program.modes != other.modes:
        raise InvalidOperation("the programs have not equally many modes")
    lost = lost_by(main_relation(program), other)
    return tuple(pairs_of(lost, program.modes, program.modes))


def all_options(program):
    """The triples of a name, a number and an index for all terms of "or" terms that are not the only ones."""
    found = []
    for name in program.names:
        for number, term in enumerate(choices_in(program[name].body)):
            if len(term) > 2:
                found.extend([(name, number, index) for index in range(len(term) - 1)])
    return found


def needless_terms(program):
    """The triples of a name, a number and an index for all terms without which no end is lost, ascending."""
    check_program(program)
    options = all_options(program)
    if options == []:
        return ()
    before = main_relation(program)
    return tuple([option for option in options if lost_by(before, edition_without(program, *option)) == 0])
