"""The true relations of a context and of all contexts that are needed from it on, found from below."""

from blockshanded.errors import TooMany
from blockshanded.mean.ledgers import Ledger
from blockshanded.mean.readings import Reading
from blockshanded.mean.tallies import Tally

READINGS_BETWEEN_SWEEPS = 20
MAX_READINGS = 1000000


class Solving:
    """The least relations that are needed from a context on, and how they were found.

    It begins with no pairs at all, and reckons bodies again whenever something that they ask for has grown.
    So no relation is ever greater than the true one; and once nothing that is needed from the root on has to
    be reckoned any more, these relations are what is reckoned by them, and so the true ones. On the way,
    contexts are asked for that are not needed by the true relations; they are dropped when nothing that is
    needed asks for them any more. New ones are taken layer by layer, so that a way that leads on and on does
    not keep the others waiting. All this is about numbers of a ledger, of contexts and rows.
    """

    def __init__(self, plan, root, limit):
        self.ledger = Ledger(plan)
        self.root = self.ledger.number_of_told(root)
        # The moments in which something grew, each with the meaning from then on.
        self.history = {}
        self._needed = [self.root]
        self._limit = limit
        self._current = {}
        self._asked = {}
        self._askers = {}
        self._new = {self.root: True}
        self._shaken = {}
        self._clock = 0
        self._next_sweep = READINGS_BETWEEN_SWEEPS
        self._next_count = 0
        self._solve()

    def meaning_now(self, number):
        """The relation of a context or the table of a row, as far as it has been found."""
        return self._current.get(number, 0)

    def meaning_before(self, number, moment):
        """The relation or the table that had been found before a moment."""
        found = 0
        for begin, meaning in self.history.get(number, ()):
            if begin < moment:
                found = meaning
        return found

    def contexts_needed(self):
        """The contexts that are needed from the root on, this one counted."""
        return [number for number in self._needed if not self.ledger.is_row(number)]

    def _solve(self):
        while self._new:
            for number in list(self._new):
                if number == self.root or self._askers.get(number):
                    self._reckon(number)
                else:
                    del self._new[number]
            self._settle()
            # Whether there are too many is not known then; but this is far more than can be waited for.
            if self._clock > MAX_READINGS:
                raise TooMany(self._limit)
            if not self._new or self._clock >= self._next_sweep:
                self._sweep()

    def _settle(self):
        """Reckons again what asks for something that has grown, until nothing grows any more."""
        while self._shaken:
            for number in list(self._shaken):
                # It may have had its turn meanwhile.
                if number in self._shaken:
                    self._reckon(number)

    def _reckon(self, number):
        self._new.pop(number, None)
        self._shaken.pop(number, None)
        self._clock += 1
        before = self.meaning_now(number)
        if self.ledger.is_row(number):
            self._note_asked(number, {context: True for context in self.ledger.row_contexts(number)})
            meaning = self.ledger.meaning(number, self._current)
        else:
            reading = Reading(self.ledger, number, lambda other: self._current.get(other, 0))
            self._note_asked(number, {other: True for other in reading.asked})
            # Pairs that were found by lesser relations stay, also while what is asked for now is not yet reckoned.
            meaning = before | reading.outcome
        if meaning != before:
            self._current[number] = meaning
            self.history.setdefault(number, []).append((self._clock, meaning))
            for asker in self._askers.get(number, {}):
                self._shaken[asker] = True

    def _note_asked(self, number, asked):
        before = self._asked.get(number, {})
        self._asked[number] = asked
        if before == asked:
            return
        for other in before:
            if other not in asked:
                del self._askers[other][number]
        for other in asked:
            if other not in before:
                self._askers.setdefault(other, {})[number] = True
                if other not in self._asked:
                    self._new[other] = True

    def _sweep(self):
        """Drops what is not needed from the root on; an error if surely too much is."""
        self._needed = self._reached()
        self._asked = {number: self._asked[number] for number in self._needed if number in self._asked}
        self._askers = {}
        for number in self._asked:
            for other in self._asked[number]:
                self._askers.setdefault(other, {})[number] = True
        self._new = {number: True for number in self._needed if number not in self._asked}
        if len(self.contexts_needed()) > self._limit and self._has_more():
            raise TooMany(self._limit)
        self._next_sweep = self._clock + max(READINGS_BETWEEN_SWEEPS, len(self._needed))

    def _has_more(self):
        """Whether it is known now that more contexts than the limit are needed by the true relations."""
        if not self._new:
            return True
        if self._clock < self._next_count:
            return False
        # To count takes long, so it is not done again before as much has been reckoned again.
        self._next_count = 2 * self._clock
        return self._has_surely_more()

    def _reached(self):
        """What is needed from the root on by the relations so far, what is nearer first."""
        found = {self.root: True}
        layer = [self.root]
        while layer:
            asked = {other: True for number in layer for other in self._asked.get(number, {})}
            layer = [other for other in asked if other not in found]
            for number in layer:
                found[number] = True
        return list(found)

    def _unsettled(self):
        """What may still grow: what needs something that has not been reckoned."""
        found = {number: True for number in self._new}
        pending = list(found)
        while pending:
            for asker in self._askers.get(pending.pop(), {}):
                if asker not in found:
                    found[asker] = True
                    pending.append(asker)
        return found

    def _greatest(self, number, unsettled):
        """The greatest relation or table that can be in the end."""
        if number in self._asked and number not in unsettled:
            return self.meaning_now(number)
        if not self.ledger.is_row(number):
            return self.ledger.plan.many_relations - 1
        contexts = self.ledger.row_contexts(number)
        return self.ledger.table_number(tuple([self._greatest(context, unsettled) for context in contexts]))

    def _has_surely_more(self):
        """Whether it is sure that more contexts than the limit are needed by the true relations.

        Each body is reckoned twice: with what has been found so far, which is not greater than what is true,
        and with the greatest that can be. What is needed in the end lies between what is asked for in the same
        place both times.
        """
        unsettled = self._unsettled()
        tally = Tally(self.ledger)
        tally.note(self.root, self.root)
        while not tally.is_finished(self._limit):
            least, greatest = tally.next_pair()
            lower = Reading(self.ledger, least, lambda number: self.ledger.meaning(number, self._current))
            upper = Reading(self.ledger, greatest, lambda other: self._greatest(other, unsettled))
            for one, other in zip(lower.asked, upper.asked):
                for pair in zip(self.ledger.contexts_at(one), self.ledger.contexts_at(other)):
                    tally.note(*pair)
        return tally.many_different() > self._limit
