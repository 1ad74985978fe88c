"""Whether a dict from contexts to relations is a closed book."""

from blockshanded.mean.bodies import Body
from blockshanded.mean.ledgers import Ledger


class Closing:
    """The contexts of a book, numbered from 1 on, and behind them the rows that are asked for in these."""

    def __init__(self, plan, book):
        self._ledger = Ledger(plan)
        for context in book:
            self._ledger.number_of_told(context)
        self._last = len(book)
        self._current = [0] + list(book.values())
        self._bodies = [None] * len(plan.titles)

    def is_closed(self):
        """Whether each context has all pairs that are reckoned for it, and all is there that it needs."""
        for number in range(1, self._last + 1):
            if not self._is_closed_at(number):
                return False
        return True

    def _is_closed_at(self, number):
        procedure, given = self._ledger.entries[number]
        body = self._bodies[procedure]
        if body is None:
            body = Body(self._ledger, procedure, self._current)
            self._bodies[procedure] = body
        asked = [None] * body.many_sites
        for sites in (body.static_sites, body.dynamic_sites):
            for index, numbers, key_of, other, is_row, _ in sites:
                key = key_of(given, asked)
                asked[index] = numbers.get(key)
                if asked[index] is None:
                    asked[index] = self._row(other, key) if is_row else None
                    if asked[index] is None:
                        return False
        value_of = body.value_of
        relation = self._current[number]
        return (value_of(given, asked) | relation) == relation

    def _row(self, procedure, key):
        """The number of a row that has had none, or None if not all of its contexts are there."""
        number = self._ledger.added(procedure, key, True)
        contexts = self._ledger.row_contexts(number)
        # What is not there gets a number now, behind those of the book.
        if max(contexts) > self._last:
            return None
        self._current.append(self._ledger.table_number(tuple([self._current[context] for context in contexts])))
        return number
