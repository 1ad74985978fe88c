"""Closed books, and the book of the true relations of a program."""

from blockshanded.base.checks import check_known, check_optional_word, check_program
from blockshanded.errors import InvalidOperation
from blockshanded.mean.closing import Closing
from blockshanded.mean.plans import plan_of
from blockshanded.mean.reckoning import check_context, has_book_form, space_of
from blockshanded.mean.relating import relation_solving

MAX_CONTEXTS = 800
MAIN = ("main", ())


def solved_plan(plan, context, in_breadth=False):
    """How the true relations are found that are needed from a context on, which is the only root."""
    solving = relation_solving(plan, MAX_CONTEXTS)
    solving.solve([solving.ledger.number_of_told(context)], in_breadth)
    return solving


def solved(program, context, word):
    """How the true relations of a program are found that are needed from a context on."""
    return solved_plan(plan_of(program, word), context)


def root_relation(solving):
    """The true relation of the only context that was looked for."""
    return solving.findings.meaning_now(solving.roots[0])


def book_of_solving(solving):
    """The dict of the relations that were found, for contexts in ascending order."""
    findings, ledger = solving.findings, solving.ledger
    relations = {ledger.told(number): findings.current[number] for number in solving.contexts_from(solving.roots)}
    return {context: relations[context] for context in sorted(relations)}


def book_of(program, *, word=None):
    """The dict of the true relations of main and of all contexts that are needed from there on."""
    check_program(program)
    check_optional_word(word)
    return book_of_solving(solved(program, MAIN, word))


def has_monotone_tables(program, space, context):
    """Whether all tables in a context are monotone."""
    kinds, meanings = program[context[0]].kinds, context[1]
    return all([kind == "block" or space.is_monotone(meaning) for kind, meaning in zip(kinds, meanings)])


def true_relation(program, context, *, word=None):
    """The true relation of a context."""
    check_program(program)
    check_optional_word(word)
    space = space_of(program, word)
    check_context(program, space, context)
    if not has_monotone_tables(program, space, context):
        raise InvalidOperation("a table is not monotone")
    return root_relation(solved(program, context, word))


def is_book(program, value, *, word=None):
    """Whether the value is a closed book."""
    check_program(program)
    check_optional_word(word)
    if not has_book_form(program, space_of(program, word), value) or MAIN not in value:
        return False
    return Closing(plan_of(program, word), value).is_closed()


def meanings_of(program, name, *, word=None):
    """The meanings in the contexts of a procedure in the book of the program, ascending."""
    check_program(program)
    check_known(program, name)
    check_optional_word(word)
    return tuple([meanings for procedure, meanings in book_of(program, word=word) if procedure == name])
