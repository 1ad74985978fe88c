"""Runs that are told by how relations were found."""

from blockshanded.mean.readings import Reading
from blockshanded.mean.relations import leading_modes, row_of


class Trace:
    """A run from a mode that ends in an end of the relation that was found for the root.

    When a pair was found for a context, the body was reckoned by pairs that had been found before. So each
    procedure that is entered is entered with a pair that was found earlier than that for which the body it
    is called in was entered, or where this is handed; so the run comes to its end.

    A closure is a part of a plan with what is handed where it stands: the closures of the arguments, and the
    reading of the body by which a pair was found. What is left to be done has a goal with it: the number with a
    bit for each end that will do.
    """

    def __init__(self, solving, mode, end):
        self._findings = solving.findings
        self._ledger = solving.ledger
        self._plan = solving.ledger.plan
        self._readings = {}
        self._left = []
        self.mode_now = mode
        self.steps_taken = 0
        self.choices_made = []
        self.arrived = False
        self._enter(solving.roots[0], (), 1 << end)

    def take(self):
        """Takes one step."""
        closure, goal = self._left.pop()
        part, around, reading = closure
        self.steps_taken += 1
        if part[0] == "do":
            self._do(part)
        elif part[0] == "seq":
            self._begin_all(closure, goal)
        elif part[0] == "or":
            self._choose(closure, goal)
        elif part[0] == "run":
            self._left.append((around[part[2]], goal))
        elif part[0] == "call":
            self._enter(reading.asked_at[part[1]], self._handed(closure, part[3]), goal)
        else:
            self._wrap(closure, goal)
        if not self._left:
            self.arrived = True

    def _do(self, deed):
        if deed[3] == self._plan.watched_word:
            self.arrived = True
            self._left = []
        else:
            self.mode_now = deed[4][self.mode_now]

    def _wrap(self, closure, goal):
        """Goes on with the procedure of a wrap, with the term as its last block."""
        part, _, reading = closure
        wrap = self._handed(closure, (part[2],))[0]
        closures = self._handed(wrap, wrap[0][3]) + self._handed(closure, (part[3],))
        if part[2][0] == "with":
            context = reading.asked_at[part[1]]
        else:
            # The wrap was handed as the row of the contexts with each relation.
            procedure, leading = self._ledger.entries[wrap[2].asked_at[wrap[0][1]]]
            context = self._ledger.number(procedure, leading + (reading.found[part[3][1]],))
        self._enter(context, closures, goal)

    def _begin_all(self, closure, goal):
        """Leaves all terms of a "seq" to be done, each with the modes from which the next ones reach the goal."""
        part, around, reading = closure
        ends = self._plan.many_ends
        # The end of a watched word, if it will do, will do for each of the terms.
        early = (goal >> self._plan.many_modes) << self._plan.many_modes
        for inner in part[2][::-1]:
            self._left.append(((inner, around, reading), goal))
            goal = leading_modes(reading.found[inner[1]], goal, self._plan.many_modes, ends) | early

    def _choose(self, closure, goal):
        """Goes on with the first term of an "or" that reaches the goal."""
        part, around, reading = closure
        for index, inner in enumerate(part[2]):
            if row_of(reading.found[inner[1]], self.mode_now, self._plan.many_ends) & goal:
                self.choices_made.append(index)
                self._left.append(((inner, around, reading), goal))
                return

    def _handed(self, closure, arguments):
        """The closures of arguments that stand where a closure stands."""
        _, around, reading = closure
        return tuple([around[argument[2]] if argument[0] == "own" else (argument, around, reading)
                      for argument in arguments])

    def _enter(self, context, closures, goal):
        """Goes on with the body of a context, by the pair for the goal that was found first."""
        for moment, relation, asked in self._findings.history[context]:
            ends = row_of(relation, self.mode_now, self._plan.many_ends) & goal
            if ends:
                root = self._plan.root(self._ledger.entries[context][0])
                reading = self._reading(context, moment, asked)
                self._left.append(((root, closures, reading), lowest_bit(ends)))
                return

    def _reading(self, context, moment, asked):
        """How the body of a context was reckoned at a moment."""
        reading = self._readings.get((context, moment))
        if reading is None:
            findings = self._findings
            reading = Reading(self._ledger, context, lambda number: findings.meaning_before(number, moment), asked)
            self._readings[(context, moment)] = reading
        return reading


def lowest_bit(number):
    """The number with the lowest bit of a number alone."""
    return number & -number


def traced_choices(solving, mode, end, limit):
    """The choices of a run from a mode to an end, as it was found; None if it takes more steps than the limit."""
    trace = Trace(solving, mode, end)
    while not trace.arrived:
        if trace.steps_taken == limit:
            return None
        trace.take()
    return tuple(trace.choices_made)
