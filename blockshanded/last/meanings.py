"""Full contexts, and how it is reckoned in them what lasts."""

from blockshanded.base.checks import check_program
from blockshanded.errors import InvalidMeaning, InvalidNumber, InvalidOperation
from blockshanded.last.forms import FullForms
from blockshanded.last.reckoning import LastingReading
from blockshanded.last.catalogs import Catalog
from blockshanded.last.truths import Truths


def is_full_context(program, value):
    """Whether the value is a full context."""
    check_program(program)
    return FullForms(program).is_context(value)


def check_full_context(forms, value):
    """Raises an error unless the value is a full context."""
    if not forms.is_context(value):
        raise InvalidOperation("this is no full context")


def plain_context(program, context):
    """The context with the relations and tables of a full context alone."""
    check_program(program)
    check_full_context(FullForms(program), context)
    return context[0], tuple([meaning[0] for meaning in context[1]])


def barred_in(catalog, table):
    """What is barred by a dict from full contexts to sets, by the numbers of the full contexts."""
    return {catalog.number_of_told(context): catalog.all_modes - table[context] for context in table}


def reading_by(catalog, number, barred, rest):
    """How the body of a full context is reckoned by what is barred for some, and for all others."""
    return LastingReading(catalog, number, lambda other: catalog.meaning_by(other, lambda own: barred.get(own, rest)))


def checked_reading(program, context, table, rest):
    """The reading by a dict, and the catalog of its numbers; an error if something is wrong."""
    check_program(program)
    forms = FullForms(program)
    check_full_context(forms, context)
    if not forms.is_dict(table):
        raise InvalidMeaning("this is no dict from full contexts to sets")
    if not forms.is_set(rest):
        raise InvalidNumber(rest)
    catalog = Catalog(Truths(program))
    number, barred = catalog.number_of_told(context), barred_in(catalog, table)
    return reading_by(catalog, number, barred, catalog.all_modes - rest), catalog


def lasting_by(program, context, table, *, rest=0):
    """The lasting set of the body in a full context, by a dict and a set for what is left out."""
    reading, catalog = checked_reading(program, context, table, rest)
    return catalog.all_modes - reading.outcome


def asked_by(program, context, table, *, rest=0):
    """The full contexts for which the dict is asked in this, ascending."""
    reading, catalog = checked_reading(program, context, table, rest)
    return tuple(sorted([catalog.told(number) for number in catalog.contexts_among(reading.asked)]))
