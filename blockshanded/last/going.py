"""Runs that last, as far as one likes."""

from blockshanded.last.reckoning import LastingReading
from blockshanded.mean.relations import leading_modes


class Going:
    """A run that goes on for ever, taken step by step.

    A closure is a part of a plan, the reading of the full context where it stands, and the closures of what is
    handed there. What is left to be done is a chain of links: a closure, the link behind it, or None, and the modes
    from which all this lasts. The mode is always one of them, so that the run never comes to an end.
    """

    def __init__(self, solving, mode):
        self._catalog = solving.ledger
        self._findings = solving.findings
        self._modes = solving.ledger.truths.plan.many_modes
        self._readings = {}
        self._mode = mode
        self._link = self._entered(solving.roots[0], (), None)
        self.choices_made = []

    def take(self):
        """Takes one step."""
        closure, behind, _ = self._link
        part, reading, handed = closure
        if part[0] == "do":
            self._mode = part[4][self._mode]
            self._link = behind
        elif part[0] == "seq":
            for inner in part[2][::-1]:
                behind = self._linked((inner, reading, handed), behind)
            self._link = behind
        elif part[0] == "or":
            self._choose(closure, behind)
        elif part[0] == "run":
            self._link = self._linked(handed[part[2]], behind)
        elif part[0] == "call":
            self._link = self._entered(reading.asked_at[part[1]], self._handed_on(closure, part[3]), behind)
        else:
            self._link = self._wrapped(closure, behind)

    def _choose(self, closure, behind):
        """Goes on with the first term of an "or" from which the run lasts."""
        part, reading, handed = closure
        for index, inner in enumerate(part[2]):
            link = self._linked((inner, reading, handed), behind)
            if (link[2] >> self._mode) & 1:
                self._link = link
                self.choices_made.append(index)
                return

    def _wrapped(self, closure, behind):
        """The link with the procedure of a wrap, with the term as its last block."""
        part, reading, _ = closure
        wrap = self._handed_on(closure, (part[2],))[0]
        closures = self._handed_on(wrap, wrap[0][3]) + self._handed_on(closure, (part[3],))
        if part[2][0] == "with":
            context = reading.asked_at[part[1]]
        else:
            # The wrap was handed as the row of the full contexts with each full meaning of a block.
            row = wrap[1].asked_at[wrap[0][1]]
            inner = part[3][1]
            place = self._catalog.place_in_table(reading.plain.found[inner], reading.found[inner])
            context = self._catalog.row_contexts(row)[place]
        return self._entered(context, closures, behind)

    def _handed_on(self, closure, arguments):
        """The closures of arguments that stand where a closure stands."""
        _, reading, handed = closure
        return tuple([handed[argument[2]] if argument[0] == "own" else (argument, reading, handed)
                      for argument in arguments])

    def _entered(self, number, closures, behind):
        reading = self._readings.get(number)
        if reading is None:
            reading = LastingReading(self._catalog, number, lambda other: self._findings.meaning_now(other))
            self._readings[number] = reading
        procedure = self._catalog.truths.ledger.entries[self._catalog.entries[number][0]][0]
        return self._linked((self._catalog.truths.plan.root(procedure), reading, closures), behind)

    def _linked(self, closure, behind):
        part, reading, _ = closure
        lasting = self._catalog.all_modes - reading.found[part[1]]
        if behind is not None:
            lasting |= leading_modes(reading.plain.found[part[1]], behind[2], self._modes, self._modes)
        return (closure, behind, lasting)
