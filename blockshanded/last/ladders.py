"""Ladders: step by step, what cannot last."""

from blockshanded.errors import TooMany
from blockshanded.last.reckoning import LastingReading
from blockshanded.mean.relations import row_of


class Support:
    """What has to be barred for other full contexts, so that some modes are barred for one of them.

    What is handed has to be just as it was found, since other full contexts would be asked for by more.
    """

    def __init__(self, catalog, reading, below):
        self.found = {}
        self._catalog = catalog
        self._plan = catalog.truths.plan
        self._by = reading
        self._below = below

    def want(self, part, modes):
        """Looks for what has these modes barred for a term."""
        if part[0] == "or" and modes:
            for inner in part[2]:
                self.want(inner, modes)
        elif part[0] == "seq" and modes:
            self._want_in_order(part[2], modes)
        elif part[0] == "call" and modes:
            self._want_asked(part, part[3], modes)
        elif part[0] == "wrap" and modes:
            self._want_around(part, part[2], part[3], modes)

    def _want_in_order(self, terms, modes):
        ahead = self._plan.nothing_at_all
        for inner in terms:
            reached = 0
            for mode in range(self._plan.many_modes):
                if (modes >> mode) & 1:
                    reached |= row_of(ahead, mode, self._plan.many_modes)
            self.want(inner, reached)
            ahead = self._catalog.truths.ledger.after(ahead, self._by.plain.found[inner[1]])

    def _want_asked(self, part, arguments, modes):
        self._add(self._by.asked_at[part[1]], modes)
        for argument in arguments:
            self._want_just(argument)

    def _want_around(self, term, wrap, inner, modes):
        if wrap[0] == "with":
            self._want_asked(term, wrap[3] + (inner,), modes)
            return
        table = self._catalog.tables[self._by.found[wrap[1]]]
        anyhow = table[self._catalog.place_in_table(self._by.plain.found[inner[1]], 0)]
        if (anyhow | modes) != anyhow:
            self._want_just(inner)

    def _want_just(self, part):
        """Looks for what makes a term or wrap that is handed just as it was found."""
        if part[0] == "with":
            for context in self._catalog.row_contexts(self._by.asked_at[part[1]]):
                self._add(context, self._below.get(context, 0))
            for argument in part[3]:
                self._want_just(argument)
        elif part[0] != "own":
            self.want(part, self._by.found[part[1]])

    def _add(self, context, modes):
        if modes:
            self.found[context] = self.found.get(context, 0) | modes


class Climb:
    """What is barred for full contexts step by step, with nothing barred at first; just what is asked for is looked at.

    For each level there is a dict from numbers of full contexts to readings, by what was found a level below.
    """

    def __init__(self, catalog):
        self._catalog = catalog
        self._levels = []

    def barred(self, level, number):
        """What is barred for a full context at a level."""
        while len(self._levels) <= level:
            self._levels.append({})
        pending = [(level, number)]
        while pending:
            here, context = pending[-1]
            missing = [] if context in self._levels[here] else self._missing_at(here, context)
            if missing:
                pending.extend([(here - 1, other) for other in missing])
            else:
                pending.pop()
        return self._levels[level][number].outcome

    def _missing_at(self, level, context):
        """Reckons a full context at a level, unless something is missing below; what is missing."""
        below = self._levels[level - 1] if level > 0 else {}
        missing = []

        def told(number):
            # What is asked for behind what is missing would not be asked for by the right meanings.
            if level > 0 and not missing:
                missing.extend([own for own in self._catalog.contexts_among([number]) if own not in below])
            return self._catalog.meaning_by(number, lambda own: below[own].outcome if own in below else 0)

        reading = LastingReading(self._catalog, context, told)
        if not missing:
            self._levels[level][context] = reading
        return missing

    def wanted(self, top, root, modes, limit):
        """For each level what has to be barred there, so that modes are barred for a root at the top of them."""
        wanted = {root: modes}
        levels = [wanted]
        many = 1
        for level in range(top, 0, -1):
            wanted = self._wanted_below(level, wanted)
            many += len(wanted)
            if many > limit:
                raise TooMany(limit)
            levels.append(wanted)
        return [level for level in levels[::-1] if level]

    def _wanted_below(self, level, wanted):
        readings = self._levels[level - 1]
        below = {number: readings[number].outcome for number in readings}
        found = {}
        for number in wanted:
            support = Support(self._catalog, self._levels[level][number], below)
            procedure = self._catalog.truths.ledger.entries[self._catalog.entries[number][0]][0]
            support.want(self._catalog.truths.plan.root(procedure), wanted[number])
            for context in support.found:
                found[context] = found.get(context, 0) | support.found[context]
        return found


def found_ladder(catalog, root, mode, limit):
    """A ladder that ends with a mode barred for a full context; an error if it has more entries than the limit."""
    climb = Climb(catalog)
    top = 0
    while not (climb.barred(top, root) >> mode) & 1:
        top += 1
        # Each rung has an entry.
        if top >= limit:
            raise TooMany(limit)
    rungs = []
    for wanted in climb.wanted(top, root, 1 << mode, limit):
        told = {catalog.told(number): catalog.all_modes - wanted[number] for number in wanted}
        rungs.append({context: told[context] for context in sorted(told)})
    return tuple(rungs)
