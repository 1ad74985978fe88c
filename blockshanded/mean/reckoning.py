"""Contexts, and how relations are reckoned in them by a book."""

from blockshanded.base.checks import check_optional_word, check_program
from blockshanded.base.integers import is_integer_in
from blockshanded.errors import InvalidMeaning, InvalidOperation
from blockshanded.mean.ledgers import Ledger
from blockshanded.mean.plans import plan_of
from blockshanded.mean.readings import Reading
from blockshanded.mean.spaces import Space


def space_of(program, word):
    """The space of the meanings of a program, with the end of a watched word or, for None, without it."""
    return Space(program.modes, watched=word is not None)


def is_relation(space, value):
    """Whether the value is a relation of the space."""
    return is_integer_in(value, 0, space.size - 1)


def is_meaning(space, value, kind):
    """Whether the value is the meaning of an argument for a parameter of this kind."""
    return is_relation(space, value) if kind == "block" else space.is_table(value)


def has_context_form(program, space, value):
    """Whether the value is a context of the program, with meanings of this space."""
    if not isinstance(value, tuple) or len(value) != 2 or value[0] not in program:
        return False
    kinds, meanings = program[value[0]].kinds, value[1]
    if not isinstance(meanings, tuple) or len(meanings) != len(kinds):
        return False
    return all([is_meaning(space, meaning, kind) for meaning, kind in zip(meanings, kinds)])


def has_book_form(program, space, value):
    """Whether the value is a dict from contexts to relations."""
    if not isinstance(value, dict):
        return False
    if not all([has_context_form(program, space, context) for context in value]):
        return False
    return all([is_relation(space, relation) for relation in value.values()])


def is_context(program, value, *, word=None):
    """Whether the value is a context."""
    check_program(program)
    check_optional_word(word)
    return has_context_form(program, space_of(program, word), value)


def check_context(program, space, value):
    """Raises an error unless the value is a context."""
    if not has_context_form(program, space, value):
        raise InvalidOperation("this is no context")


def reading_by(program, context, book, word):
    """How the body is reckoned in a context by a book, and the ledger in which the contexts have numbers."""
    check_program(program)
    check_optional_word(word)
    space = space_of(program, word)
    check_context(program, space, context)
    if not has_book_form(program, space, book):
        raise InvalidMeaning("this is no dict from contexts to relations")
    ledger = Ledger(plan_of(program, word))
    relations = {ledger.number_of_told(told): book[told] for told in book}
    return Reading(ledger, ledger.number_of_told(context), lambda number: ledger.meaning(number, relations)), ledger


def reckoned(program, context, book, *, word=None):
    """The relation of the body in a context, by a book."""
    reading, _ = reading_by(program, context, book, word)
    return reading.outcome


def needed(program, context, book, *, word=None):
    """The contexts for which the book is asked in this, ascending."""
    reading, ledger = reading_by(program, context, book, word)
    return tuple(sorted([ledger.told(number) for number in ledger.contexts_among(reading.asked)]))
