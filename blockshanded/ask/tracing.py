"""Runs that are told by how relations were found."""

from blockshanded.mean.readings import Reading
from blockshanded.mean.relations import leading_modes, row_of


class Trace:
    """A run from a mode that ends in an end of the relation that was found for the root.

    When a pair was found for a context, the body was reckoned by pairs that had been found before. So each
    procedure that is entered is entered with a pair that was found earlier than that for which the body it
    is called in was entered, or where this is handed; so the run comes to its end.

    A closure is a part of a plan with what is handed where it stands: the closures of the arguments, the
    context, and the moment when the body was reckoned. What is left to be done has a goal with it: the number
    with a bit for each end that will do.
    """

    def __init__(self, solving, mode, end):
        self._solving = solving
        self._ledger = solving.ledger
        self._plan = solving.ledger.plan
        self._readings = {}
        self._left = []
        self.mode_now = mode
        self.steps_taken = 0
        self.choices_made = []
        self.arrived = False
        self._enter(solving.root, (), 1 << end)

    def take(self):
        """Takes one step."""
        closure, goal = self._left.pop()
        part, around = closure[:2]
        self.steps_taken += 1
        if part[0] == "do":
            self._do(part)
        elif part[0] == "seq":
            self._begin_all(closure, goal)
        elif part[0] == "or":
            self._choose(closure, goal)
        elif part[0] == "run":
            self._left.append((around[part[2]], goal))
        elif part[0] == "call":
            meanings = self._found(closure, part[3])
            self._enter(self._ledger.number(part[2], meanings), self._handed(closure, part[3]), goal)
        else:
            self._wrap(closure, goal)
        if not self._left:
            self.arrived = True

    def _do(self, deed):
        if deed[3] == self._plan.watched_word:
            self.arrived = True
            self._left = []
        else:
            self.mode_now = deed[4][self.mode_now]

    def _wrap(self, closure, goal):
        """Goes on with the procedure of a wrap, with the term as its last block."""
        part = closure[0]
        wrap = self._handed(closure, (part[2],))[0]
        procedure, arguments = wrap[0][2:]
        meanings = self._found(wrap, arguments) + self._found(closure, (part[3],))
        closures = self._handed(wrap, arguments) + self._handed(closure, (part[3],))
        self._enter(self._ledger.number(procedure, meanings), closures, goal)

    def _begin_all(self, closure, goal):
        """Leaves all terms of a "seq" to be done, each with the modes from which the next ones reach the goal."""
        part, around, context, moment = closure
        ends = self._plan.many_ends
        # The end of a watched word, if it will do, will do for each of the terms.
        early = (goal >> self._plan.many_modes) << self._plan.many_modes
        relations = self._found(closure, part[2])
        for inner, relation in zip(part[2][::-1], relations[::-1]):
            self._left.append(((inner, around, context, moment), goal))
            goal = leading_modes(relation, goal, self._plan.many_modes, ends) | early

    def _choose(self, closure, goal):
        """Goes on with the first term of an "or" that reaches the goal."""
        part, around, context, moment = closure
        for index, relation in enumerate(self._found(closure, part[2])):
            if row_of(relation, self.mode_now, self._plan.many_ends) & goal:
                self.choices_made.append(index)
                self._left.append(((part[2][index], around, context, moment), goal))
                return

    def _handed(self, closure, arguments):
        """The closures of arguments that stand where a closure stands."""
        _, around, context, moment = closure
        return tuple([around[argument[2]] if argument[0] == "own" else (argument, around, context, moment)
                      for argument in arguments])

    def _found(self, closure, parts):
        """The meanings of parts that stand where a closure stands."""
        _, _, context, moment = closure
        reading = self._readings.get((context, moment))
        if reading is None:
            reading = Reading(self._ledger, context, lambda number: self._solving.meaning_before(number, moment))
            self._readings[(context, moment)] = reading
        return tuple([reading.found[part[1]] for part in parts])

    def _enter(self, context, closures, goal):
        """Goes on with the body of a context, by the pair for the goal that was found first."""
        for moment, relation in self._solving.history[context]:
            ends = row_of(relation, self.mode_now, self._plan.many_ends) & goal
            if ends:
                root = self._plan.roots[self._ledger.entries[context][0]]
                self._left.append(((root, closures, context, moment), lowest_bit(ends)))
                return


def lowest_bit(number):
    """The number with the lowest bit of a number alone."""
    return number & -number


def traced_choices(solving, mode, end, limit):
    """The choices of a run from a mode to an end, as it was found; None if it takes more steps than the limit."""
    trace = Trace(solving, mode, end)
    while not trace.arrived:
        if trace.steps_taken == limit:
            return None
        trace.take()
    return tuple(trace.choices_made)
