"""Procedures as they are for all callers: their true relations for all blocks that can be handed."""

from blockshanded.base.checks import check_known, check_pair_of_names, check_program
from blockshanded.base.integers import are_integers_below
from blockshanded.errors import InvalidOperation, TooMany
from blockshanded.mean.books import MAX_CONTEXTS
from blockshanded.mean.plans import plan_of
from blockshanded.mean.relating import relation_solving
from blockshanded.mean.relations import pairs_of


def size_of(program):
    """The number of relations, without a watched word."""
    return 1 << (program.modes * program.modes)


def has_blocks_alone(procedure):
    """Whether all parameters of a procedure are blocks."""
    return "wrap" not in procedure.kinds


def check_blocks_alone(procedure):
    """Raises an error unless all parameters of a procedure are blocks."""
    if not has_blocks_alone(procedure):
        raise InvalidOperation("a parameter of this procedure is a wrap")


def check_like_callers(program, one, other):
    """Raises an error unless these are a program and two procedures of it with equally many blocks alone."""
    check_pair_of_names(program, one, other)
    check_blocks_alone(program[one])
    check_blocks_alone(program[other])
    if len(program[one].kinds) != len(program[other].kinds):
        raise InvalidOperation("the procedures have not equally many parameters")


def all_tuples(many_values, many, limit):
    """All tuples of so many numbers that are less than the first number, ascending; an error if beyond the limit."""
    found = [()]
    for _ in range(many):
        # Each step makes more of them, so there would be too many in the end, too.
        if len(found) * many_values > limit:
            raise TooMany(limit)
        found = [leading + (value,) for leading in found for value in range(many_values)]
    return found


def solving_for(program):
    """With which true relations of several procedures are found, one after another."""
    return relation_solving(plan_of(program, None), MAX_CONTEXTS)


def found_entries(solving, procedure):
    """The dict from all tuples of relations for the parameters of a procedure to its true relations."""
    plan, ledger = solving.ledger.plan, solving.ledger
    number = plan.number_of[procedure.named]
    meanings = all_tuples(plan.many_relations, len(procedure.kinds), MAX_CONTEXTS)
    contexts = [ledger.number(number, given) for given in meanings]
    solving.solve(contexts)
    return {given: solving.findings.meaning_now(context) for given, context in zip(meanings, contexts)}


def both_entries(program, one, other):
    """The entries of two procedures."""
    solving = solving_for(program)
    return found_entries(solving, program[one]), found_entries(solving, program[other])


def entries_of(program, name):
    """The dict from all tuples of relations for the parameters of a procedure to its true relations."""
    check_program(program)
    check_known(program, name)
    check_blocks_alone(program[name])
    return found_entries(solving_for(program), program[name])


def are_alike(program, one, other):
    """Whether no caller can tell two procedures apart by where it ends."""
    check_like_callers(program, one, other)
    entries, others = both_entries(program, one, other)
    return entries == others


def groups_alike(program):
    """The names of all procedures with blocks alone, those together that are alike."""
    check_program(program)
    solving = solving_for(program)
    groups = {}
    for name in program.names:
        if has_blocks_alone(program[name]):
            entries = found_entries(solving, program[name])
            key = (len(program[name].kinds), tuple(entries.values()))
            groups.setdefault(key, []).append(name)
    return tuple(sorted([tuple(names) for names in groups.values()]))


def telling(program, one, other):
    """Meanings for which two procedures differ, and a pair that just one of them has then; None if they are alike."""
    check_like_callers(program, one, other)
    entries, others = both_entries(program, one, other)
    for meanings in entries:
        different = entries[meanings] ^ others[meanings]
        if different:
            return (meanings, pairs_of(different, program.modes, program.modes)[0])
    return None


def is_telling(program, one, other, value):
    """Whether the value tells two procedures."""
    check_like_callers(program, one, other)
    entries, others = both_entries(program, one, other)
    if not isinstance(value, tuple) or len(value) != 2:
        return False
    meanings, pair = value
    if not isinstance(meanings, tuple) or not are_integers_below(meanings, size_of(program)) or meanings not in entries:
        return False
    if not isinstance(pair, tuple) or len(pair) != 2 or not are_integers_below(pair, program.modes):
        return False
    return pair in pairs_of(entries[meanings] ^ others[meanings], program.modes, program.modes)
