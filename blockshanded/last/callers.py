"""Procedures as they are for all callers, with what lasts; and blocks and callers for all full meanings."""

from blockshanded.base.checks import check_known, check_program
from blockshanded.base.integers import are_integers_below, is_integer, is_integer_in
from blockshanded.base.procedures import Procedure
from blockshanded.base.programs import MAX_PROCEDURES
from blockshanded.base.terms import MAX_MODES
from blockshanded.base.words import is_name
from blockshanded.errors import InvalidMeaning, InvalidNumber, InvalidOperation, InvalidProgram
from blockshanded.last.endless import lasting_set, lasting_solving
from blockshanded.last.forms import FullForms
from blockshanded.mean.books import MAX_CONTEXTS
from blockshanded.mean.relations import pairs_of
from blockshanded.mean.spaces import Space
from blockshanded.same.made import WORD, block_with, calling, check_can_be_called
from blockshanded.same.tables import all_tuples, check_blocks_alone, check_like_callers


def loop_of(name):
    """The procedure with a name that calls itself without end."""
    if not is_name(name):
        raise InvalidOperation("this cannot be the name of a procedure")
    return Procedure(name, (), ("call", name))


def block_that_lasts(modes, relation, lasting, loop):
    """A block with a relation and a lasting set, which calls a procedure that lasts."""
    ends = block_with(modes, relation)
    if lasting == 0:
        return ends
    stays = ("do", WORD, tuple([mode if (lasting >> mode) & 1 else None for mode in range(modes)]))
    goes_on = ("seq", stays, ("call", loop))
    if relation == 0:
        return goes_on
    options = ends[1:] if ends[0] == "or" else (ends,)
    return ("or",) + options + (goes_on,)


def lasting_block(modes, relation, lasting, loop):
    """A block with a relation and a lasting set in programs with the procedure that lasts."""
    if not is_integer_in(modes, 1, MAX_MODES):
        raise InvalidNumber(modes)
    if not is_integer_in(relation, 0, Space(modes).size - 1):
        raise InvalidNumber(relation)
    if not is_integer_in(lasting, 0, (1 << modes) - 1):
        raise InvalidNumber(lasting)
    if not is_name(loop):
        raise InvalidOperation("this cannot be the name of a procedure")
    return block_that_lasts(modes, relation, lasting, loop)


def found_full_entries(solving, procedure):
    """The dict from all tuples of full meanings for the parameters of a procedure to its full meanings."""
    catalog = solving.ledger
    truths = catalog.truths
    many_meanings = truths.plan.many_relations * catalog.many_sets
    tuples = all_tuples(many_meanings, len(procedure.kinds), MAX_CONTEXTS)
    meanings = [tuple([divmod(number, catalog.many_sets) for number in numbers]) for numbers in tuples]
    contexts = [catalog.number_of_told((procedure.named, given)) for given in meanings]
    relations = [truths.relation(catalog.entries[context][0]) for context in contexts]
    solving.solve(contexts)
    return {given: (relation, lasting_set(solving, context))
            for given, relation, context in zip(meanings, relations, contexts)}


def both_full_entries(program, one, other):
    """The full entries of two procedures."""
    solving = lasting_solving(program)
    return found_full_entries(solving, program[one]), found_full_entries(solving, program[other])


def full_entries(program, name):
    """The dict from all tuples of full meanings for the parameters of a procedure to its full meanings."""
    check_program(program)
    check_known(program, name)
    check_blocks_alone(program[name])
    return found_full_entries(lasting_solving(program), program[name])


def are_fully_alike(program, one, other):
    """Whether no caller can tell two procedures apart by where it ends, or lasts."""
    check_like_callers(program, one, other)
    entries, others = both_full_entries(program, one, other)
    return entries == others


def modes_in(lasting, modes):
    """The modes of a set, ascending."""
    return [mode for mode in range(modes) if (lasting >> mode) & 1]


def telling_points(modes, full, other):
    """The pairs and the modes that just one of two full meanings has."""
    return pairs_of(full[0] ^ other[0], modes, modes) + modes_in(full[1] ^ other[1], modes)


def fully_telling(program, one, other):
    """Full meanings for which two procedures differ, and a pair or a mode that just one has then; None if alike."""
    check_like_callers(program, one, other)
    entries, others = both_full_entries(program, one, other)
    for meanings in entries:
        points = telling_points(program.modes, entries[meanings], others[meanings])
        if points:
            return (meanings, points[0])
    return None


def is_point(value, modes):
    """Whether the value is a mode, or a pair of two modes."""
    if isinstance(value, tuple):
        return len(value) == 2 and are_integers_below(value, modes)
    return is_integer(value) and 0 <= value < modes


def is_fully_telling(program, one, other, value):
    """Whether the value tells two procedures fully."""
    check_like_callers(program, one, other)
    entries, others = both_full_entries(program, one, other)
    if not isinstance(value, tuple) or len(value) != 2 or not is_point(value[1], program.modes):
        return False
    if not FullForms(program).are_blocks(value[0], len(program[one].kinds)):
        return False
    return value[1] in telling_points(program.modes, entries[value[0]], others[value[0]])


def lasting_caller_of(program, name, meanings, loop):
    """The program with a procedure that lasts, and another main, which hands blocks with these full meanings."""
    check_can_be_called(program, name)
    if not FullForms(program).are_blocks(meanings, len(program[name].kinds)):
        raise InvalidMeaning("this is no full meaning for each parameter")
    if not is_name(loop) or loop in program:
        raise InvalidOperation("this cannot be the name of the procedure that lasts")
    if len(program) == MAX_PROCEDURES:
        raise InvalidProgram("there is no place for one more procedure")
    blocks = [block_that_lasts(program.modes, relation, lasting, loop) for relation, lasting in meanings]
    return calling(program.with_procedure(loop_of(loop)), name, blocks)
