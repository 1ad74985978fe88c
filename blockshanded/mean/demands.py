"""Which of the asked meanings matter for the relation of a body, if they grow."""


def has_surely_nothing(part, is_watched):
    """Whether a term never has any pairs, whatever is handed and found."""
    if part[0] == "do":
        return part[2] == 0
    if part[0] == "or":
        return all([has_surely_nothing(inner, is_watched) for inner in part[2]])
    if part[0] == "seq":
        # What has the end of a watched word keeps it, whatever follows.
        some = part[2][:1] if is_watched else part[2]
        return any([has_surely_nothing(inner, is_watched) for inner in some])
    return False


class Usage:
    """For each procedure of a plan, whether its relation can depend on its parameters."""

    def __init__(self, plan):
        self._plan = plan
        self._is_watched = plan.many_ends > plan.many_modes
        self._used = [[False] * len(kinds) for kinds in plan.forms]
        self._has_changed = True
        while self._has_changed:
            self._has_changed = False
            for procedure in range(len(plan.titles)):
                self._note_part(procedure, plan.root(procedure))

    def used_of(self, procedure, arguments):
        """Those of the arguments of a procedure that its relation can depend on."""
        return [argument for argument, is_used in zip(arguments, self._used[procedure]) if is_used]

    def _note_part(self, procedure, part):
        """Notes the parameters of a procedure that are used in a part of its body."""
        if part[0] in ("run", "own"):
            if not self._used[procedure][part[2]]:
                self._used[procedure][part[2]] = True
                self._has_changed = True
        elif part[0] in ("call", "with"):
            self._note_parts(procedure, self.used_of(part[2], part[3]))
        elif part[0] == "wrap":
            self._note_parts(procedure, self.used_in_wrap(part))
        elif part[0] in ("seq", "or") and not has_surely_nothing(part, self._is_watched):
            self._note_parts(procedure, part[2])

    def _note_parts(self, procedure, parts):
        for part in parts:
            self._note_part(procedure, part)

    def used_in_wrap(self, term):
        """The parts in a "wrap" that its relation can depend on."""
        wrap, inner = term[2:]
        return [wrap, inner] if wrap[0] == "own" else self.used_of(wrap[2], wrap[3] + (inner,))


class Demand:
    """What matters for a body in a context: numbers such that, unless their meanings grow, its relation does not.

    A part of a "seq" without pairs makes all others idle, as long as it has none. The meanings in `valued` cannot
    grow. What is handed for a parameter that is not used does not matter.
    """

    def __init__(self, ledger, usage, reading, root, valued):
        self._ledger = ledger
        self._usage = usage
        self._by = reading
        self._valued = valued
        self._plan = ledger.plan
        self._mattering = {}
        self._demand(root)
        self.numbers = list(self._mattering)

    def _demand(self, part):
        if part[0] == "or":
            if self._by.found[part[1]] != self._plan.many_relations - 1:
                self._demand_all(part[2])
        elif part[0] == "seq":
            if self._plan.many_ends > self._plan.many_modes:
                self._demand_in_order(part[2])
            else:
                self._demand_together(part[2])
        elif part[0] in ("call", "with"):
            self._demand_asked(part)
            self._demand_all(self._usage.used_of(part[2], part[3]))
        elif part[0] == "wrap":
            self._demand_around(part)

    def _demand_all(self, parts):
        for part in parts:
            self._demand(part)

    def _demand_asked(self, part):
        number = self._by.asked_at[part[1]]
        if number not in self._valued:
            self._mattering[number] = True

    def _demand_around(self, term):
        wrap, inner = term[2:]
        if wrap[0] == "with":
            self._demand_asked(term)
            self._demand_all(self._usage.used_in_wrap(term))
        else:
            table = self._ledger.tables[self._by.found[wrap[1]]]
            if table[self._by.found[inner[1]]] != table[-1]:
                self._demand(inner)

    def _demand_together(self, terms):
        """Demands what keeps a "seq" from having more pairs, without a watched word."""
        empty = [term for term in terms if self._by.found[term[1]] == 0]
        if not any([self._is_settled(term) for term in empty]):
            self._demand_all(empty or terms)

    def _demand_in_order(self, terms):
        """Demands what keeps a "seq" from having more pairs, with a watched word: its end is kept."""
        relation = self._plan.nothing_at_all
        for term in terms:
            # With nothing behind it, just the ends of the watched word are left.
            if self._ledger.after(relation, 0) == relation:
                return
            self._demand(term)
            relation = self._ledger.after(relation, self._by.found[term[1]])

    def _is_settled(self, part):
        """Whether nothing in a part can grow."""
        if part[0] in ("do", "run", "own"):
            return True
        if part[1] in self._by.asked_at and self._by.asked_at[part[1]] not in self._valued:
            return False
        if part[0] == "wrap":
            return self._are_settled(part[2:])
        return self._are_settled(part[3] if part[0] in ("call", "with") else part[2])

    def _are_settled(self, parts):
        return all([self._is_settled(part) for part in parts])
