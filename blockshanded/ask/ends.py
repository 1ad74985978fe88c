"""The modes in which runs can end."""

from blockshanded.ask.papers import found_run, is_book_without, is_pair_headed, is_run_from
from blockshanded.base.checks import check_mode, check_program
from blockshanded.mean.books import MAIN, book_of_solving, root_relation, solved
from blockshanded.mean.relations import has_pair


def check_start_and_end(program, start, end):
    """Raises an error unless these are a program and two of its modes."""
    check_program(program)
    check_mode(program, start)
    check_mode(program, end)


def leads(solving, start, end):
    """Whether the relation that was found for main has this pair."""
    return has_pair(root_relation(solving), start, end, solving.ledger.plan.many_ends)


def can_end(program, start, end):
    """Whether some run from a mode can end in a mode."""
    check_start_and_end(program, start, end)
    return leads(solved(program, MAIN, None), start, end)


def ends(program, start):
    """The modes in which runs from a mode can end, ascending."""
    check_program(program)
    check_mode(program, start)
    solving = solved(program, MAIN, None)
    return tuple([end for end in range(program.modes) if leads(solving, start, end)])


def end_run(program, start, end):
    """A run from a mode that ends in a mode, or None."""
    check_start_and_end(program, start, end)
    solving = solved(program, MAIN, None)
    return found_run(program, solving, start, end) if leads(solving, start, end) else None


def end_paper(program, start, end):
    """A run from a mode that ends in a mode, or a closed book that never allows it."""
    check_start_and_end(program, start, end)
    solving = solved(program, MAIN, None)
    if leads(solving, start, end):
        return ("run", found_run(program, solving, start, end))
    return ("book", book_of_solving(solving))


def is_end_paper(program, start, end, value):
    """Whether the value is an end paper."""
    check_start_and_end(program, start, end)
    if is_pair_headed(value, "run"):
        run = value[1]
        return is_run_from(program, start, run) and run.state == "ended" and run.mode == end
    return is_pair_headed(value, "book") and is_book_without(program, start, end, value[1], None)
