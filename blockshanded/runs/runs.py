"""Runs of programs, told by their choices."""

from blockshanded.base.checks import check_mode, check_optional_word, check_program
from blockshanded.base.integers import is_integer
from blockshanded.errors import InvalidOperation, TooMany
from blockshanded.runs.steps import Walk

MAX_STEPS = 1000


def check_choices(values):
    """Raises an error unless the values are integers from 0 on."""
    if not all([is_integer(value) and value >= 0 for value in values]):
        raise InvalidOperation("choices are integers from 0 on")


def walked(walk, choices, until):
    """The number of the choices that are used up to where the run stops; the walk is there then."""
    used = 0
    while not walk.is_over() and not walk.is_stuck:
        options = walk.many_options()
        if options > 0 and used == len(choices):
            return used
        if walk.steps_taken == MAX_STEPS:
            raise TooMany(MAX_STEPS)
        if options == 0:
            walk.take(0)
            if until is not None and walk.has_just_done(until):
                return used
        else:
            if choices[used] >= options:
                raise InvalidOperation("this is not the index of a term")
            walk.take(choices[used])
            used += 1
    return used


def state_of(walk, until):
    """The state of a run that has stopped here."""
    if walk.is_stuck:
        return "stuck"
    if until is not None and walk.has_just_done(until):
        return "done"
    return "ended" if walk.is_over() else "waiting"


class Run:
    """A run of a program by its choices, up to where it stops; it never changes."""

    def __init__(self, program, start, *choices, until=None):
        check_program(program)
        check_mode(program, start)
        check_choices(choices)
        check_optional_word(until)
        walk = Walk(program, start)
        if walked(walk, choices, until) < len(choices):
            raise InvalidOperation("choices are left")
        self._program = program
        self._start = start
        self._choices = choices
        self._until = until
        self._state = state_of(walk, until)
        self._mode = walk.mode_now
        self._words = tuple(walk.deeds_done)
        self._steps = walk.steps_taken
        self._options = walk.many_options() if self._state == "waiting" else 0

    @classmethod
    def of(cls, program, start, choices, *, until=None):
        """The run by the choices in a tuple."""
        check_program(program)
        check_mode(program, start)
        if not isinstance(choices, tuple):
            raise InvalidOperation("the choices are no tuple")
        return cls(program, start, *choices, until=until)

    @property
    def program(self):
        """The program that is run."""
        return self._program

    @property
    def start(self):
        """The mode in which the run begins."""
        return self._start

    @property
    def choices(self):
        """The indices of the terms that are chosen."""
        return self._choices

    @property
    def until(self):
        """The word behind which the run stops, or None."""
        return self._until

    @property
    def state(self):
        """How the run has stopped."""
        return self._state

    @property
    def mode(self):
        """The mode at last."""
        return self._mode

    @property
    def words(self):
        """The words of the deeds that were done, in order."""
        return self._words

    @property
    def steps(self):
        """The number of the steps."""
        return self._steps

    @property
    def options(self):
        """The number of the terms of the "or" that waits, or 0."""
        return self._options

    def chosen(self, *more):
        """The run with more choices at the end."""
        choices = self._choices + more
        return Run(self._program, self._start, *choices, until=self._until)

    def __len__(self):
        return len(self._choices)

    def __eq__(self, other):
        return (isinstance(other, Run) and self._program == other._program and self._start == other._start
                and self._choices == other._choices and self._until == other._until)

    def __str__(self):
        return f"run by {len(self._choices)} choices, {self._state} in {self._mode}"
