"""Counting contexts of which only bounds are known."""

PAIRS_FOR_EACH_OF_THE_LIMIT = 4


class Tally:
    """Pairs of contexts of the same procedure: what is counted lies between the two, in each of its meanings.

    Meanings are known where both agree. For some places of parameters, contexts that are known there and
    differ there are different; the most that are told apart so are counted for each procedure.
    """

    def __init__(self, ledger):
        self._ledger = ledger
        self._seen = {}
        self._pending = []
        self._known = {}

    def note(self, least, greatest):
        """Counts what lies between two contexts."""
        if (least, greatest) in self._seen:
            return
        self._seen[(least, greatest)] = True
        self._pending.append((least, greatest))
        procedure, lower = self._ledger.entries[least]
        upper = self._ledger.entries[greatest][1]
        for places in range(1 << len(lower)):
            chosen = [place for place in range(len(lower)) if (places >> place) & 1]
            if all([lower[place] == upper[place] for place in chosen]):
                by_places = self._known.setdefault(procedure, {})
                by_places.setdefault(places, {})[tuple([lower[place] for place in chosen])] = True

    def next_pair(self):
        """A pair that has not been given yet."""
        return self._pending.pop()

    def is_finished(self, limit):
        """Whether more than the limit have been counted, or no pair is left, or it is no use to go on."""
        if not self._pending or len(self._seen) > limit * PAIRS_FOR_EACH_OF_THE_LIMIT:
            return True
        return self.many_different() > limit

    def many_different(self):
        """The number of contexts that surely are different."""
        return sum([max([len(known) for known in by_places.values()]) for by_places in self._known.values()])
