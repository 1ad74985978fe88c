"""What is never run: parameters and procedures, and the program without it."""

from blockshanded.base.checks import check_known, check_program
from blockshanded.base.procedures import Procedure
from blockshanded.base.programs import Program
from blockshanded.base.terms import parts_in, with_parts
from blockshanded.errors import InvalidOperation
from blockshanded.mean.books import MAIN, root_relation, solved_plan
from blockshanded.mean.plans import Plan, triples_of

NOTHING = ("seq",)
# This is no name, so no deed of a program has it.
NEW_WORD = "*"


def marked(program, term):
    """The term with a new deed ahead of it."""
    return ("seq", ("do", NEW_WORD, tuple(range(program.modes))), term)


def with_marked_runs(program, part, parameter):
    """A term or wrap with a new deed ahead of each run of a parameter."""
    if part == ("run", parameter):
        return marked(program, part)
    return with_parts(part, [with_marked_runs(program, inner, parameter) for inner in parts_in(part)])


def is_never_done(program, name, body):
    """Whether no run does the new deed if this is the body of a procedure."""
    procedures = [(other, parameters, body if other == name else own) for other, parameters, own in triples_of(program)]
    solving = solved_plan(Plan(program.modes, procedures, NEW_WORD), MAIN)
    ends = program.modes + 1
    done = sum([1 << (mode * ends + program.modes) for mode in range(program.modes)])
    return (root_relation(solving) & done) == 0


def is_never_run(program, name, parameter):
    """Whether no block that is handed as this parameter is ever run."""
    return is_never_done(program, name, with_marked_runs(program, program[name].body, parameter))


def is_never_entered(program, name):
    """Whether no run comes to the body of a procedure."""
    return is_never_done(program, name, marked(program, program[name].body))


def is_idle(program, name, parameter):
    """Whether a block parameter of a procedure is idle."""
    check_program(program)
    check_known(program, name)
    if (parameter, "block") not in program[name].parameters:
        raise InvalidOperation("this is no block parameter of the procedure")
    return is_never_run(program, name, parameter)


def idle_parameters(program):
    """The pairs of a procedure and a parameter for all idle block parameters, ascending."""
    check_program(program)
    pairs = [(procedure.named, parameter) for procedure in program.procedures
             for parameter, kind in procedure.parameters if kind == "block"]
    return tuple([pair for pair in sorted(pairs) if is_never_run(program, *pair)])


def is_idle_procedure(program, name):
    """Whether a procedure is idle."""
    check_program(program)
    check_known(program, name)
    return is_never_entered(program, name)


def idle_procedures(program):
    """The names of all idle procedures, ascending."""
    check_program(program)
    return tuple([name for name in program.names if is_never_entered(program, name)])


def bared_arguments(program, part, idle):
    """The arguments in a call or a wrap of a procedure, without those for idle parameters."""
    return [NOTHING if (part[1], parameter[0]) in idle else bared_part(program, argument, idle)
            for parameter, argument in zip(program[part[1]].parameters, part[2:])]


def bared_part(program, part, idle):
    """A term or wrap in which nothing is handed for idle parameters; these are pairs of a procedure and a name."""
    if part[0] in ("call", "with"):
        return with_parts(part, bared_arguments(program, part, idle))
    parts = [bared_part(program, inner, idle) for inner in parts_in(part)]
    if part[0] == "wrap" and part[1][0] == "with":
        last = program[part[1][1]].parameters[-1]
        if (part[1][1], last[0]) in idle:
            parts[1] = NOTHING
    return with_parts(part, parts)


def bared(program):
    """The program without what is never run."""
    check_program(program)
    idle = {pair: True for pair in idle_parameters(program)}
    lost = idle_procedures(program)
    procedures = []
    for own in program.procedures:
        body = NOTHING if own.named in lost else bared_part(program, own.body, idle)
        procedures.append(Procedure(own.named, own.parameters, body))
    return Program(program.modes, *procedures)
