"""The true relations of plain contexts, found as they are asked for."""

from blockshanded.mean.books import MAX_CONTEXTS
from blockshanded.mean.plans import plan_of
from blockshanded.mean.readings import Reading
from blockshanded.mean.relating import relation_solving


class Truths:
    """True relations of a program without a watched word, each found when it is asked for, and counted from itself on.

    The numbers of plain contexts and rows are those of the ledger.
    """

    def __init__(self, program):
        self.plan = plan_of(program, None)
        self._solving = relation_solving(self.plan, MAX_CONTEXTS)
        self.ledger = self._solving.ledger
        self._known = {}
        self._readings = {}

    def relation(self, number):
        """The true relation of a plain context; an error if too many are needed from it on."""
        if number not in self._known:
            self._solving.solve([number])
            self._known[number] = True
        return self._solving.findings.current[number]

    def relations_found(self):
        """The list of the relations, and the numbers of tables, by the numbers of what they are of."""
        return self._solving.findings.current

    def numbers_asked(self, number):
        """The numbers that the body of a plain context asks for, in order; an error if too many are needed there."""
        self.relation(number)
        return self._solving.numbers_asked(number)

    def reading(self, number):
        """How the body of a plain context is reckoned by true relations."""
        reading = self._readings.get(number)
        if reading is None:
            reading = Reading(self.ledger, number, lambda other: self._meaning(other))
            self._readings[number] = reading
        return reading

    def _meaning(self, number):
        return self.ledger.meaning_by(number, lambda context: self.relation(context))
