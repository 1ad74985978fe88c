"""How it is reckoned what lasts in a full context."""

from blockshanded.mean.relations import leading_modes


class LastingReading:
    """What is barred for all parts of the body of a full context, by what `tell` tells of each number asked for.

    `asked` has these numbers, of full contexts and rows, in the order in which they are asked for. `found` has what
    is barred for the parts, and `asked_at` the numbers that they ask for, by the numbers of the parts. `plain` has
    their relations.
    """

    def __init__(self, catalog, number, tell):
        plain, given = catalog.entries[number]
        self._catalog = catalog
        self._plan = catalog.truths.plan
        self.plain = catalog.truths.reading(plain)
        self._given = given
        self._tell = tell
        self.asked = []
        self.asked_at = {}
        self.found = {}
        self.outcome = self._barred(self._plan.root(catalog.truths.ledger.entries[plain][0]))

    def _barred(self, part):
        """What is barred for a term, or the number of the table of a wrap."""
        if part[0] == "do":
            barred = self._catalog.all_modes
        elif part[0] in ("run", "own"):
            barred = self._given[part[2]]
        elif part[0] in ("call", "with"):
            barred = self._ask(part, part[3])
        elif part[0] == "wrap":
            barred = self._around(part, part[2], part[3])
        elif part[0] == "seq":
            barred = self._in_order(part[2])
        else:
            barred = self._catalog.all_modes
            for inner in part[2]:
                barred &= self._barred(inner)
        self.found[part[1]] = barred
        return barred

    def _in_order(self, terms):
        """What is barred for a "seq": where none of the terms is come to in a mode from which it lasts."""
        modes = self._plan.many_modes
        lasting = 0
        ahead = self._plan.nothing_at_all
        for inner in terms:
            behind = self._catalog.all_modes - self._barred(inner)
            lasting |= leading_modes(ahead, behind, modes, modes)
            ahead = self._catalog.truths.ledger.after(ahead, self.plain.found[inner[1]])
        return self._catalog.all_modes - lasting

    def _around(self, term, wrap, inner):
        if wrap[0] == "with":
            return self._ask(term, wrap[3] + (inner,))
        table = self._catalog.tables[self._barred(wrap)]
        barred = self._barred(inner)
        return table[self._catalog.place_in_table(self.plain.found[inner[1]], barred)]

    def _ask(self, part, arguments):
        given = tuple([self._barred(argument) for argument in arguments])
        number = self._catalog.number(self.plain.asked_at[part[1]], given)
        self.asked.append(number)
        self.asked_at[part[1]] = number
        tell = self._tell
        return tell(number)
