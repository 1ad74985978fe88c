"""How lasting papers are judged."""

from blockshanded.last.catalogs import Catalog
from blockshanded.last.meanings import barred_in, reading_by
from blockshanded.last.truths import Truths


class PaperJudge:
    """Dicts from full contexts to sets, with all true relations that are asked for by them."""

    def __init__(self, program, dicts):
        self._catalog = Catalog(Truths(program))
        self._rungs = [barred_in(self._catalog, table) for table in dicts]
        for barred in self._rungs:
            for number in barred:
                # An error if too many plain contexts are needed for one that is asked for here.
                self._catalog.truths.reading(self._catalog.entries[number][0])

    def is_supported(self):
        """Whether each set of the first dict is within what is reckoned by it, with nothing for all others."""
        barred = self._rungs[0]
        for number in barred:
            reckoned = reading_by(self._catalog, number, barred, self._catalog.all_modes).outcome
            if (reckoned | barred[number]) != barred[number]:
                return False
        return True

    def is_ladder(self):
        """Whether each set contains what is reckoned by the dict ahead of its own, with all modes for all others."""
        ahead = {}
        for barred in self._rungs:
            for number in barred:
                reckoned = reading_by(self._catalog, number, ahead, 0).outcome
                if (reckoned | barred[number]) != reckoned:
                    return False
            ahead = barred
        return True
