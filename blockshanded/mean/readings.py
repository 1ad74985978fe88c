"""How the body of a procedure is reckoned in a context."""


class Reading:
    """The meanings of all parts of the body of a context, by what `told` tells of each number that is asked for.

    `asked` has these numbers, of contexts and rows, in the order in which they are asked for. It is as long
    for each other `told`, and what stands at the same place in both is asked for by the same part of the body.
    `found` has the meanings of the parts, and `asked_at` the numbers that they ask for, by the numbers of the parts.
    If numbers are passed, these are asked for in the place of those to which the meanings of the parts lead.
    """

    def __init__(self, ledger, context, told, numbers=None):
        procedure, meanings = ledger.entries[context]
        self._ledger = ledger
        self._given = meanings
        self._told = told
        self._numbers = numbers
        self.asked = []
        self.asked_at = {}
        self.found = {}
        self.outcome = self._meaning(ledger.plan.root(procedure))

    def _meaning(self, part):
        """The relation of a term, or the number of the table of a wrap."""
        if part[0] in ("run", "own"):
            meaning = self._given[part[2]]
        elif part[0] in ("call", "with"):
            # A wrap has no argument for the last parameter, so this is a row.
            meaning = self._ask(part, part[2], self._meanings(part[3]))
        elif part[0] == "do":
            meaning = part[2]
        elif part[0] == "wrap":
            meaning = self._around(part, part[2], part[3])
        else:
            meaning = self._joined(part)
        self.found[part[1]] = meaning
        return meaning

    def _meanings(self, parts):
        return tuple([self._meaning(part) for part in parts])

    def _joined(self, term):
        """The relation of a "seq" or an "or"."""
        if term[0] == "seq":
            relation = self._ledger.plan.nothing_at_all
            for inner in term[2]:
                relation = self._ledger.after(relation, self._meaning(inner))
            return relation
        relation = 0
        for inner in term[2]:
            relation |= self._meaning(inner)
        return relation

    def _around(self, term, wrap, inner):
        """The relation of a wrap around a term."""
        if wrap[0] == "own":
            table = self._ledger.tables[self._meaning(wrap)]
            return table[self._meaning(inner)]
        leading = self._meanings(wrap[3])
        return self._ask(term, wrap[2], leading + (self._meaning(inner),))

    def _ask(self, part, procedure, meanings):
        if self._numbers is None:
            number = self._ledger.number(procedure, meanings)
        else:
            number = self._numbers[len(self.asked)]
        self.asked.append(number)
        self.asked_at[part[1]] = number
        tell = self._told
        return tell(number)
