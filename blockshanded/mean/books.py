"""Closed books, and the book of the true relations of a program."""

from blockshanded.base.checks import check_known, check_optional_word, check_program
from blockshanded.errors import InvalidOperation
from blockshanded.mean.ledgers import Ledger
from blockshanded.mean.plans import plan_of
from blockshanded.mean.readings import Reading
from blockshanded.mean.reckoning import check_context, has_book_form, space_of
from blockshanded.mean.solving import Solving

MAX_CONTEXTS = 800
MAIN = ("main", ())


def solved(program, context, word):
    """How the true relations are found that are needed from a context on."""
    return Solving(plan_of(program, word), context, MAX_CONTEXTS)


def book_of_solving(solving):
    """The dict of the relations that were found, for contexts in ascending order."""
    relations = {solving.ledger.told(number): solving.meaning_now(number) for number in solving.contexts_needed()}
    return {context: relations[context] for context in sorted(relations)}


def book_of(program, *, word=None):
    """The dict of the true relations of main and of all contexts that are needed from there on."""
    check_program(program)
    check_optional_word(word)
    return book_of_solving(solved(program, MAIN, word))


def true_relation(program, context, *, word=None):
    """The true relation of a context."""
    check_program(program)
    check_optional_word(word)
    space = space_of(program, word)
    check_context(program, space, context)
    kinds, meanings = program[context[0]].kinds, context[1]
    if not all([kind == "block" or space.is_monotone(meaning) for kind, meaning in zip(kinds, meanings)]):
        raise InvalidOperation("a table is not monotone")
    solving = solved(program, context, word)
    return solving.meaning_now(solving.root)


def is_book(program, value, *, word=None):
    """Whether the value is a closed book."""
    check_program(program)
    check_optional_word(word)
    if not has_book_form(program, space_of(program, word), value) or MAIN not in value:
        return False
    ledger = Ledger(plan_of(program, word))
    relations = {ledger.number_of_told(context): value[context] for context in value}
    return all([is_closed_at(ledger, number, relations) for number in relations])


def is_closed_at(ledger, number, relations):
    """Whether there is all that a context needs, and its relation has all pairs that are reckoned."""
    reading = Reading(ledger, number, lambda other: ledger.meaning(other, relations))
    if not all([asked in relations for asked in ledger.contexts_among(reading.asked)]):
        return False
    return (reading.outcome | relations[number]) == relations[number]


def meanings_of(program, name, *, word=None):
    """The meanings in the contexts of a procedure in the book of the program, ascending."""
    check_program(program)
    check_known(program, name)
    check_optional_word(word)
    return tuple([meanings for procedure, meanings in book_of(program, word=word) if procedure == name])
