"""The texts of programs."""

from blockshanded.base.checks import check_program
from blockshanded.base.procedures import Procedure
from blockshanded.base.programs import Program
from blockshanded.errors import InvalidProgram, ParseError
from blockshanded.text.forms import modes_in, procedure_in


def entry_text(entry):
    """The text of an entry of the table of a deed."""
    return "-" if entry is None else str(entry)


def bare_text(part):
    """The text of a term or wrap, without brackets around it."""
    if part[0] == "do":
        return " ".join(["do", part[1]] + [entry_text(entry) for entry in part[2]])
    # What is no tuple is the first word, or a name.
    return " ".join([bracketed_text(inner) if isinstance(inner, tuple) else inner for inner in part])


def bracketed_text(part):
    """The text of a term or wrap within another one."""
    return f"({bare_text(part)})"


def procedure_text(procedure):
    """The line of a procedure."""
    words = ["proc", procedure.named]
    for name, kind in procedure.parameters:
        words.extend([name, kind])
    body = procedure.body
    words.extend([":", bare_text(body) if body[0] in ("do", "run") else bracketed_text(body)])
    return " ".join(words)


def write_program(program):
    """The text of a program."""
    check_program(program)
    lines = [f"program {program.modes}"]
    lines.extend([procedure_text(procedure) for procedure in program.procedures])
    return "\n".join(lines)


def read_program(text):
    """The program of a text."""
    if not isinstance(text, str):
        raise InvalidProgram("a text is a string")
    lines = text.split("\n")
    modes = modes_in(lines[0])
    if modes is None:
        raise ParseError(0)
    told = [procedure_in(line) for line in lines[1:]]
    if None in told:
        raise ParseError(1 + told.index(None))
    procedures = [Procedure(name, parameters, body) for name, parameters, body in told]
    program = Program(modes, *procedures)
    # A line can have its form and still not be what is written: brackets around a body that is a deed, say.
    if write_program(program) != text:
        raise InvalidProgram("this is not how the program is written")
    return program
