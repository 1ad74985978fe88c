"""What lasts, for ever: the modes from which runs do, papers that prove it, and beginnings of such runs."""

from blockshanded.ask.papers import is_pair_headed
from blockshanded.base.checks import check_mode, check_program
from blockshanded.base.integers import is_integer_in
from blockshanded.errors import InvalidNumber, InvalidOperation
from blockshanded.last.bodies import LastingLibrary
from blockshanded.last.catalogs import Catalog
from blockshanded.last.forms import FullForms
from blockshanded.last.going import Going
from blockshanded.last.judging import PaperJudge
from blockshanded.last.ladders import found_ladder
from blockshanded.last.meanings import check_full_context
from blockshanded.last.truths import Truths
from blockshanded.mean.books import MAIN, MAX_CONTEXTS
from blockshanded.mean.solving import Solving
from blockshanded.runs.runs import MAX_STEPS, check_choices
from blockshanded.runs.steps import Walk


def lasting_solving(program):
    """With which it is found what lasts in full contexts, one after another."""
    catalog = Catalog(Truths(program))
    return Solving(catalog, LastingLibrary(catalog), MAX_CONTEXTS)


def lasting_set(solving, number):
    """The true lasting set of a full context."""
    return solving.ledger.all_modes - solving.findings.meaning_now(number)


def lasting_solved(program, context):
    """How it was found what lasts in all full contexts that are asked for from one on, which is the only root."""
    solving = lasting_solving(program)
    solving.solve([solving.ledger.number_of_told(context)])
    return solving


def does_last(solving, start):
    """Whether the only root that was looked for lasts from a mode."""
    return (lasting_set(solving, solving.roots[0]) >> start) & 1 == 1


def book_of_lasting(solving):
    """The dict of the true lasting sets that were found, for full contexts in ascending order."""
    sets = {solving.ledger.told(number): lasting_set(solving, number)
            for number in solving.contexts_from(solving.roots)}
    return {context: sets[context] for context in sorted(sets)}


def can_last(program, start):
    """Whether some run from a mode lasts."""
    check_program(program)
    check_mode(program, start)
    return does_last(lasting_solved(program, MAIN), start)


def lasting_modes(program):
    """The modes from which some run lasts, ascending."""
    check_program(program)
    solving = lasting_solved(program, MAIN)
    return tuple([mode for mode in range(program.modes) if does_last(solving, mode)])


def lasting_book(program):
    """The dict of the true lasting sets of main and of all full contexts that are asked for from there on."""
    check_program(program)
    return book_of_lasting(lasting_solved(program, MAIN))


def true_lasting(program, context):
    """The true lasting set of a full context."""
    check_program(program)
    forms = FullForms(program)
    check_full_context(forms, context)
    if not forms.has_monotone_lasting_tables(context):
        raise InvalidOperation("a lasting table is not monotone")
    solving = lasting_solved(program, context)
    return lasting_set(solving, solving.roots[0])


def lasting_paper(program, start):
    """What proves that a run from a mode lasts, or that none does."""
    check_program(program)
    check_mode(program, start)
    solving = lasting_solved(program, MAIN)
    if does_last(solving, start):
        return ("table", book_of_lasting(solving))
    return ("ladder", found_ladder(solving.ledger, solving.roots[0], start, MAX_CONTEXTS))


def is_lasting_paper(program, start, value):
    """Whether the value is a lasting paper."""
    check_program(program)
    check_mode(program, start)
    forms = FullForms(program)
    if is_pair_headed(value, "table"):
        table = value[1]
        if not forms.is_dict(table) or MAIN not in table or (table[MAIN] >> start) & 1 == 0:
            return False
        return PaperJudge(program, (table,)).is_supported()
    if not is_pair_headed(value, "ladder") or not isinstance(value[1], tuple) or value[1] == ():
        return False
    dicts = value[1]
    if not all([forms.is_dict(rung) for rung in dicts]):
        return False
    if MAIN not in dicts[-1] or (dicts[-1][MAIN] >> start) & 1 == 1:
        return False
    return PaperJudge(program, dicts).is_ladder()


def check_steps(value):
    """Raises an error unless the value is a number of steps."""
    if not is_integer_in(value, 0, MAX_STEPS):
        raise InvalidNumber(value)


def walked_on(program, start, steps, choices):
    """The walk behind so many steps by these choices; an error if it cannot take them, or some choice is left."""
    walk = Walk(program, start)
    used = 0
    while walk.steps_taken < steps:
        if walk.is_over():
            raise InvalidOperation("the run ends")
        options = walk.many_options()
        if options > 0:
            if used == len(choices) or choices[used] >= options:
                raise InvalidOperation("this is not the index of a term, or none is told")
            walk.take(choices[used])
            used += 1
        else:
            walk.take(0)
        if walk.is_stuck:
            raise InvalidOperation("the run is stuck")
    if used < len(choices):
        raise InvalidOperation("choices are left")
    return walk


class Beginning:
    """The first steps of a run, by the choices that are met in them; it never changes."""

    def __init__(self, program, start, steps, *choices):
        check_program(program)
        check_mode(program, start)
        check_steps(steps)
        check_choices(choices)
        walk = walked_on(program, start, steps, choices)
        self._program = program
        self._start = start
        self._steps = steps
        self._choices = choices
        self._mode = walk.mode_now
        self._words = tuple(walk.deeds_done)

    @classmethod
    def of(cls, program, start, steps, choices):
        """The beginning by the choices in a tuple."""
        check_program(program)
        check_mode(program, start)
        check_steps(steps)
        if not isinstance(choices, tuple):
            raise InvalidOperation("the choices are no tuple")
        return cls(program, start, steps, *choices)

    @property
    def program(self):
        """The program that is run."""
        return self._program

    @property
    def start(self):
        """The mode in which the run begins."""
        return self._start

    @property
    def steps(self):
        """The number of the steps."""
        return self._steps

    @property
    def choices(self):
        """The indices of the terms that are chosen."""
        return self._choices

    @property
    def mode(self):
        """The mode behind the steps."""
        return self._mode

    @property
    def words(self):
        """The words of the deeds that were done, in order."""
        return self._words

    def __len__(self):
        return len(self._choices)

    def __eq__(self, other):
        return (isinstance(other, Beginning) and self._program == other._program and self._start == other._start
                and self._steps == other._steps and self._choices == other._choices)

    def __str__(self):
        return f"beginning of {self._steps} steps, {len(self._choices)} choices, in {self._mode}"


def endless_beginning(program, start, steps):
    """A beginning with so many steps of a run from a mode that lasts, or None."""
    check_program(program)
    check_mode(program, start)
    check_steps(steps)
    solving = lasting_solved(program, MAIN)
    if not does_last(solving, start):
        return None
    going = Going(solving, start)
    for _ in range(steps):
        going.take()
    return Beginning(program, start, steps, *going.choices_made)
