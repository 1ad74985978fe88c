"""The true relations of contexts, where lesser relations may lead to far too many others."""

from blockshanded.errors import TooMany
from blockshanded.mean.demands import Demand, Usage
from blockshanded.mean.queues import Queues
from blockshanded.mean.readings import Reading
from blockshanded.mean.tallies import has_surely_more

READINGS_BETWEEN_SWEEPS = 20
READINGS_BEFORE_COUNTING = 2000


class Patience:
    """Finds true meanings one after another, and for each of them just what matters for it.

    For a context whose relation is looked for, bodies are reckoned again and again, but what its relation cannot
    depend on, as far as is known, is left alone, and all procedures have their turn. Once nothing that matters is
    left to be reckoned, all that was found so is true. Only then is it looked at what the context needs; so it does
    not matter how much would be needed by lesser relations.
    """

    def __init__(self, findings, settled, limit):
        self._findings = findings
        self._ledger = findings.ledger
        self._full = self._ledger.plan.many_relations - 1
        self._limit = limit
        self._usage = Usage(self._ledger.plan)
        self._queues = Queues()
        # What is known to be true.
        self._valued = {number: True for number in settled}
        # For each number that has been reckoned, what matters for it; and the other way round.
        self._demanded = {}
        self._demanders = {}
        self._new = {}
        self._shaken = {}
        self._needed = {}
        self._many_needed = 0
        self._readings = 0
        self._next_count = 0

    def needed_from(self, roots):
        """A dict from all that is needed from some contexts on, these counted, to what each of them asks for."""
        for root in roots:
            self._need(root)
        asked, pending = {}, list(roots)
        while pending:
            number = pending.pop()
            if number not in asked:
                asked[number] = self._asked_in_the_end(number)
                pending.extend(asked[number])
        return asked

    def _need(self, number):
        """Notes that something is surely needed; an error if more contexts than the limit are."""
        if number not in self._needed:
            self._needed[number] = True
            self._many_needed += 0 if self._ledger.is_row(number) else 1
            if self._many_needed > self._limit:
                raise TooMany(self._limit)

    def _asked_in_the_end(self, number):
        """What is asked for by true meanings, with these found."""
        self._find(number)
        while True:
            asked = self._asked_now(number)
            left = [other for other in asked if other not in self._valued]
            if not left:
                for other in asked:
                    self._need(other)
                return asked
            # What is asked for first does not depend on the others.
            self._need(left[0])
            self._find(left[0])

    def _asked_now(self, number):
        return self._ledger.row_contexts(number) if self._ledger.is_row(number) else self._reading(number).asked

    def _reading(self, number):
        self._readings += 1
        return Reading(self._ledger, number, lambda other: self._findings.meaning_now(other))

    def _find(self, target):
        """Finds the true meaning of a number."""
        while target not in self._valued:
            reached = self._swept(target)
            new = [number for number in reached if number not in self._demanded]
            if not new:
                for number in reached:
                    self._valued[number] = True
            else:
                self._go_on(target, new, max(READINGS_BETWEEN_SWEEPS, len(reached)))

    def _swept(self, target):
        """What matters for a number, this one counted, what is nearer first; the rest is dropped."""
        reached = {target: True}
        layer = [target]
        while layer:
            asked = {other: True for number in layer for other in self._demanded.get(number, {})}
            layer = [other for other in asked if other not in reached and other not in self._valued]
            for number in layer:
                reached[number] = True
        self._demanded = {number: self._demanded[number] for number in reached if number in self._demanded}
        self._demanders = {}
        for number in self._demanded:
            for other in self._demanded[number]:
                self._demanders.setdefault(other, {})[number] = True
        return list(reached)

    def _go_on(self, target, new, readings):
        """Reckons what is new, and what is new then, with so many readings, or until nothing is left."""
        self._queues.refill([(self._ledger.entries[number][0], number) for number in new])
        last = self._readings + readings
        while self._readings < last and target not in self._valued:
            taken = self._queues.taken()
            if taken is None:
                return
            before = self._readings
            if taken[1] not in self._demanded and self._matters(taken[1], target):
                self._reckon(taken[1])
                self._settle(target)
            self._queues.note_effort(taken[0], self._readings - before)
            for number in self._new:
                self._queues.line_up(self._ledger.entries[number][0], number)
            self._new = {}
        if self._readings >= self._next_count:
            self._count()

    def _matters(self, number, target):
        return number == target or bool(self._demanders.get(number))

    def _settle(self, target):
        """Reckons again what has something growing that matters for it, until nothing grows any more."""
        while self._shaken:
            for number in list(self._shaken):
                # It may have had its turn meanwhile.
                if self._shaken.pop(number, False):
                    if self._matters(number, target):
                        self._reckon(number)
                    else:
                        self._note_demanded(number, [])
                        del self._demanded[number]

    def _reckon(self, number):
        self._shaken.pop(number, None)
        before = self._findings.meaning_now(number)
        if self._ledger.is_row(number):
            asked = self._ledger.row_contexts(number)
            demanded = [context for context in asked if context not in self._valued]
            meaning = self._ledger.meaning_by(number, lambda context: self._findings.meaning_now(context))
        else:
            reading = self._reading(number)
            asked = reading.asked
            demanded = self._demand(number, reading)
            meaning = before | reading.outcome
            if meaning == self._full:
                self._valued[number] = True
        self._note_demanded(number, demanded)
        if meaning != before:
            self._findings.follow_ledger()
            self._findings.note(number, meaning, asked)
            for demander in self._demanders.get(number, {}):
                self._shaken[demander] = True

    def _demand(self, number, reading):
        root = self._ledger.plan.root(self._ledger.entries[number][0])
        return Demand(self._ledger, self._usage, reading, root, self._valued).numbers

    def _note_demanded(self, number, numbers):
        before = self._demanded.get(number, {})
        demanded = {other: True for other in numbers}
        self._demanded[number] = demanded
        for other in before:
            if other not in demanded:
                del self._demanders[other][number]
        for other in demanded:
            if other not in before:
                self._demanders.setdefault(other, {})[number] = True
                if other not in self._demanded:
                    self._new[other] = True

    def _count(self):
        """An error if surely more contexts than the limit are needed."""
        # To count takes long, so it is not done again before as much has been reckoned again.
        self._next_count = max(READINGS_BEFORE_COUNTING, 2 * self._readings)
        if has_surely_more(self._findings, self._valued, self._needed, self._limit):
            raise TooMany(self._limit)
