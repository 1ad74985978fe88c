"""Counting contexts of which only bounds are known."""

from blockshanded.mean.readings import Reading

PAIRS_FOR_EACH_OF_THE_LIMIT = 4


class Tally:
    """Pairs of contexts of the same procedure: what is counted lies between the two, in each of its meanings.

    Meanings are known where both agree. For some places of parameters, contexts that are known there and
    differ there are different; the most that are told apart so are counted for each procedure.
    """

    def __init__(self, ledger):
        self._ledger = ledger
        self._seen = {}
        self._pending = []
        self._known = {}

    def note(self, least, greatest):
        """Counts what lies between two contexts."""
        if (least, greatest) in self._seen:
            return
        self._seen[(least, greatest)] = True
        self._pending.append((least, greatest))
        procedure, lower = self._ledger.entries[least]
        upper = self._ledger.entries[greatest][1]
        for places in range(1 << len(lower)):
            chosen = [place for place in range(len(lower)) if (places >> place) & 1]
            if all([lower[place] == upper[place] for place in chosen]):
                by_places = self._known.setdefault(procedure, {})
                by_places.setdefault(places, {})[tuple([lower[place] for place in chosen])] = True

    def next_pair(self):
        """A pair that has not been given yet."""
        return self._pending.pop()

    def is_finished(self, limit):
        """Whether more than the limit have been counted, or no pair is left, or it is no use to go on."""
        if not self._pending or len(self._seen) > limit * PAIRS_FOR_EACH_OF_THE_LIMIT:
            return True
        return self.many_different() > limit

    def many_different(self):
        """The number of contexts that surely are different."""
        return sum([max([len(known) for known in by_places.values()]) for by_places in self._known.values()])


def has_surely_more(findings, valued, contexts, limit):
    """Whether it is sure that more contexts than the limit are needed by the true relations from some on.

    Each body is reckoned twice: with what has been found so far, which is not greater than what is true,
    and with the greatest that can be; both agree on what is `valued`. What is needed in the end lies between
    what is asked for in the same place both times.
    """
    ledger = findings.ledger
    full = ledger.plan.many_relations - 1

    def least_at(number):
        return ledger.meaning_by(number, lambda context: findings.meaning_now(context))

    def greatest_at(number):
        return ledger.meaning_by(number, lambda other: findings.meaning_now(other) if other in valued else full)

    tally = Tally(ledger)
    for context in contexts:
        if not ledger.is_row(context):
            tally.note(context, context)
    while not tally.is_finished(limit):
        least, greatest = tally.next_pair()
        lower = Reading(ledger, least, least_at)
        upper = Reading(ledger, greatest, greatest_at)
        for one, other in zip(lower.asked, upper.asked):
            for pair in zip(ledger.contexts_at(one), ledger.contexts_at(other)):
                tally.note(*pair)
    return tally.many_different() > limit
