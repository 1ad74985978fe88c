"""How the true relations of a plan are found."""

from blockshanded.mean.bodies import Body, RowBody
from blockshanded.mean.ledgers import Ledger
from blockshanded.mean.patience import Patience
from blockshanded.mean.solving import Solving
from blockshanded.mean.tallies import has_surely_more


class RelationLibrary:
    """The bodies of a plan, by which relations are reckoned."""

    def __init__(self, ledger):
        self.full = ledger.plan.many_relations - 1
        self.is_patient = True
        self._ledger = ledger

    def made_body(self, procedure, is_row, current):
        """The body of a procedure, or that of its rows."""
        return RowBody(self._ledger, procedure, current) if is_row else Body(self._ledger, procedure, current)

    def has_surely_more(self, findings, settled, contexts, limit):
        """Whether it is sure that more contexts than the limit are needed from some on."""
        return has_surely_more(findings, {number: True for number in settled}, contexts, limit)

    def needed_patiently(self, findings, settled, limit, roots):
        """What is needed from some contexts on, found where lesser relations lead to far too many others."""
        return Patience(findings, settled, limit).needed_from(roots)


def relation_solving(plan, limit):
    """With which the true relations of contexts are found, one after another, each of them with a limit."""
    ledger = Ledger(plan)
    return Solving(ledger, RelationLibrary(ledger), limit)
