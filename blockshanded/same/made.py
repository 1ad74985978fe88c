"""Blocks and wraps for all meanings, and callers that hand them."""

from blockshanded.base.checks import check_known, check_program
from blockshanded.base.integers import are_integers_below, is_integer_in
from blockshanded.base.procedures import MAX_TERMS, Procedure
from blockshanded.base.terms import MAX_MODES, all_parts
from blockshanded.base.words import is_name
from blockshanded.errors import InvalidMeaning, InvalidNumber, InvalidOperation, TooMany
from blockshanded.mean.relations import has_pair, pairs_of
from blockshanded.mean.spaces import Space
from blockshanded.same.tables import check_blocks_alone, size_of

WORD = "go"
MAX_MODES_OF_WRAPS = 2


def step(modes, start, end):
    """A deed that can be done in one mode alone, and leads to another one."""
    return ("do", WORD, tuple([end if mode == start else None for mode in range(modes)]))


def block_with(modes, relation):
    """A block with a relation: a choice of deeds."""
    left = [[end for end in range(modes) if has_pair(relation, mode, end, modes)] for mode in range(modes)]
    deeds = []
    # Each deed leads to one more end from each mode, as long as there are some.
    while deeds == [] or max([len(ends) for ends in left]) > 0:
        deeds.append(("do", WORD, tuple([ends[0] if ends else None for ends in left])))
        left = [ends[1:] for ends in left]
    return deeds[0] if len(deeds) == 1 else ("or",) + tuple(deeds)


def block_of(modes, relation):
    """A block without calls that has a relation."""
    if not is_integer_in(modes, 1, MAX_MODES):
        raise InvalidNumber(modes)
    if not is_integer_in(relation, 0, Space(modes).size - 1):
        raise InvalidNumber(relation)
    return block_with(modes, relation)


def least_relations(modes, table, start, end):
    """The relations for which a monotone table has a pair, and none of those within them has it."""
    having = [relation for relation, found in enumerate(table) if has_pair(found, start, end, modes)]
    return [relation for relation in having
            if [other for other in having if (other | relation) == relation] == [relation]]


def steps_around(modes, start, end, relation):
    """What leads from a mode to another one by the block that is handed, if this has the pairs of a relation."""
    terms = []
    mode = start
    for begin, behind in pairs_of(relation, modes, modes):
        terms.extend([step(modes, mode, begin), ("run", "b")])
        mode = behind
    return ("seq",) + tuple(terms) + (step(modes, mode, end),)


def wrap_of(modes, name, table):
    """A procedure with a block as its parameter whose true relations are those of a monotone table."""
    if not is_integer_in(modes, 1, MAX_MODES_OF_WRAPS):
        raise InvalidNumber(modes)
    if not is_name(name):
        raise InvalidOperation("this cannot be the name of a procedure")
    space = Space(modes)
    if not space.is_table(table) or not space.is_monotone(table):
        raise InvalidMeaning("this is no monotone table")
    terms = [steps_around(modes, start, end, relation) for start in range(modes) for end in range(modes)
             for relation in least_relations(modes, table, start, end)]
    if 1 + sum([len(all_parts(term)) for term in terms]) > MAX_TERMS:
        raise TooMany(MAX_TERMS)
    body = ("or",) + tuple(terms) if terms else block_with(modes, 0)
    return Procedure(name, (("b", "block"),), body)


def calls_main(program, name):
    """Whether a procedure is called main, or calls it, also by others."""
    found = {name: True}
    pending = [name]
    while pending:
        for other in program[pending.pop()].uses:
            if other not in found:
                found[other] = True
                pending.append(other)
    return "main" in found


def check_can_be_called(program, name):
    """Raises an error unless another main procedure can call a procedure of a program with blocks alone."""
    check_program(program)
    check_known(program, name)
    check_blocks_alone(program[name])
    if calls_main(program, name):
        raise InvalidOperation("this procedure is main, or calls it")


def calling(program, name, blocks):
    """The program with another main, which calls a procedure with some blocks."""
    return program.with_procedure(Procedure("main", (), ("call", name) + tuple(blocks)))


def caller_of(program, name, meanings):
    """The program with another main, which calls a procedure with blocks that have these relations."""
    check_can_be_called(program, name)
    if not isinstance(meanings, tuple) or len(meanings) != len(program[name].kinds):
        raise InvalidMeaning("this is no relation for each parameter")
    if not are_integers_below(meanings, size_of(program)):
        raise InvalidMeaning("these are no relations")
    return calling(program, name, [block_with(program.modes, relation) for relation in meanings])
