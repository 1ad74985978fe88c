"""How the true relations of a plan are found."""

from blockshanded.mean.bodies import Body, RowBody
from blockshanded.mean.ledgers import Ledger
from blockshanded.mean.patience import Patience
from blockshanded.mean.solving import Solving


class RelationLibrary:
    """The bodies of a plan, by which relations are reckoned."""

    def __init__(self, ledger):
        self.full = ledger.plan.many_relations - 1
        self.is_patient = True
        self._ledger = ledger

    def made_body(self, procedure, is_row, current):
        """The body of a procedure, or that of its rows."""
        return RowBody(self._ledger, procedure, current) if is_row else Body(self._ledger, procedure, current)

    def needed_patiently(self, findings, final, limit, roots):
        """What is needed from some contexts on, found where lesser relations lead to far too many others."""
        return Patience(findings, final, limit).needed_from(roots)


def relation_solving(plan, limit):
    """With which the true relations of contexts are found, one after another, each of them with a limit."""
    ledger = Ledger(plan)
    return Solving(ledger, RelationLibrary(ledger), limit)
