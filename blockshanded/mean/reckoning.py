"""Contexts, and how relations are reckoned in them by a book."""

from blockshanded.base.checks import check_optional_word, check_program
from blockshanded.base.integers import are_integers_below
from blockshanded.errors import InvalidMeaning, InvalidOperation
from blockshanded.mean.ledgers import Ledger
from blockshanded.mean.plans import plan_of
from blockshanded.mean.readings import Reading
from blockshanded.mean.spaces import Space


def space_of(program, word):
    """The space of the meanings of a program, with the end of a watched word or, for None, without it."""
    return Space(program.modes, watched=word is not None)


def has_context_form(kinds_by_name, space, value):
    """Whether the value is a context, with meanings of this space, for procedures with parameters of these kinds."""
    if not isinstance(value, tuple) or len(value) != 2 or not isinstance(value[0], str):
        return False
    kinds, meanings = kinds_by_name.get(value[0]), value[1]
    if kinds is None or not isinstance(meanings, tuple) or len(meanings) != len(kinds):
        return False
    if "wrap" not in kinds:
        return are_integers_below(meanings, space.size)
    blocks = [meaning for meaning, kind in zip(meanings, kinds) if kind == "block"]
    tables = [meaning for meaning, kind in zip(meanings, kinds) if kind == "wrap"]
    return are_integers_below(blocks, space.size) and all([space.is_table(table) for table in tables])


def kinds_in(program):
    """The kinds of the parameters for the name of each procedure."""
    return {procedure.named: procedure.kinds for procedure in program.procedures}


def has_book_form(program, space, value):
    """Whether the value is a dict from contexts to relations."""
    if not isinstance(value, dict):
        return False
    kinds_by_name = kinds_in(program)
    if not all([has_context_form(kinds_by_name, space, context) for context in value]):
        return False
    return are_integers_below(list(value.values()), space.size)


def is_context(program, value, *, word=None):
    """Whether the value is a context."""
    check_program(program)
    check_optional_word(word)
    return has_context_form(kinds_in(program), space_of(program, word), value)


def check_context(program, space, value):
    """Raises an error unless the value is a context."""
    if not has_context_form(kinds_in(program), space, value):
        raise InvalidOperation("this is no context")


def reading_by(program, context, book, word):
    """How the body is reckoned in a context by a book, and the ledger in which the contexts have numbers."""
    check_program(program)
    check_optional_word(word)
    space = space_of(program, word)
    check_context(program, space, context)
    if not has_book_form(program, space, book):
        raise InvalidMeaning("this is no dict from contexts to relations")
    ledger = Ledger(plan_of(program, word))

    def told(number):
        return ledger.meaning_by(number, lambda other: book.get(ledger.told(other), 0))

    return Reading(ledger, ledger.number_of_told(context), told), ledger


def reckoned(program, context, book, *, word=None):
    """The relation of the body in a context, by a book."""
    reading, _ = reading_by(program, context, book, word)
    return reading.outcome


def needed(program, context, book, *, word=None):
    """The contexts for which the book is asked in this, ascending."""
    reading, ledger = reading_by(program, context, book, word)
    return tuple(sorted([ledger.told(number) for number in ledger.contexts_among(reading.asked)]))
