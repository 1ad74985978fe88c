"""Bodies of procedures, made into functions, so that they are quickly reckoned in many contexts."""

from blockshanded.mean.sites import Sites, constant_value, given_value, last_packed, site_value


def taken_with(place, constant):
    """The function for a handed relation, with some pairs more."""
    return lambda given, asked: given[place] | constant


def either_of_sites(constant, places, current):
    """The function for all pairs of all sites, of handed relations and of a constant one."""
    def told(given, asked):
        relation = constant
        for place in places:
            relation |= given[place]
        for number in asked:
            relation |= current[number]
        return relation
    return told


def either_of(constant, functions):
    """The function for all pairs of some relations and of a constant one."""
    def told(given, asked):
        relation = constant
        for function in functions:
            relation |= function(given, asked)
        return relation
    return told


def followed_two(ledger, one, other):
    """The function for one relation after another one."""
    return lambda given, asked: ledger.after(one(given, asked), other(given, asked))


def followed_all(ledger, functions):
    """The function for relations one after another."""
    first, *others = functions

    def told(given, asked):
        relation = first(given, asked)
        for function in others:
            relation = ledger.after(relation, function(given, asked))
        return relation
    return told


def looked_up(tables, place, inner):
    """The function for the entry of a handed table."""
    return lambda given, asked: tables[given[place]][inner(given, asked)]


class Body(Sites):
    """The body of a procedure: what it asks for, and how its relation is reckoned.

    The values of its terms, and of the wraps that are handed, are kept by the numbers of these parts.
    """

    def __init__(self, ledger, procedure, current):
        Sites.__init__(self, False)
        self.told_by = {}
        self._ledger = ledger
        self._current = current
        self._root = ledger.plan.root(procedure)
        self._direct = self._direct_parts()
        self.value_of = self._value(self._root)[2]

    def _direct_parts(self):
        """The numbers of the terms whose pairs are all pairs of the body."""
        terms = self._root[2] if self._root[0] == "or" else ()
        return {term[1]: True for term in terms}

    def _value(self, part):
        value = self._made_value(part)
        self.told_by[part[1]] = value
        return value

    def _made_value(self, part):
        tag = part[0]
        if tag == "do":
            return constant_value(part[2])
        if tag in ("run", "own"):
            return given_value(part[2])
        if tag in ("call", "with"):
            return self._site(part, part[2], [self._value(inner) for inner in part[3]], tag == "with")
        if tag == "wrap":
            return self._wrapped(part, part[2], part[3])
        return self._sequence(part[2]) if tag == "seq" else self._either(part)

    def _wrapped(self, part, wrap, term):
        if wrap[0] == "with":
            return self._site(part, wrap[2], [self._value(inner) for inner in wrap[3] + (term,)], False)
        inner = self._value(term)
        return (None, inner[1], looked_up(self._ledger.tables, wrap[2], inner[2]))

    def _site(self, part, procedure, values, is_row):
        numbers = self._ledger.rows[procedure] if is_row else self._ledger.contexts[procedure]
        sites = self.add_site(values, numbers, procedure, is_row, part[1] in self._direct)
        return site_value(sites, self._current)

    def _sequence(self, parts):
        same = self._ledger.plan.nothing_at_all
        values = []
        for value in [self._value(inner) for inner in parts]:
            if values and value[0] is not None and values[-1][0] is not None:
                values[-1] = constant_value(self._ledger.after(values[-1][0], value[0]))
            elif value[0] != same:
                values.append(value)
        if len(values) < 2:
            return values[0] if values else constant_value(same)
        reads = tuple([site for value in values for site in value[1]])
        functions = [value[2] for value in values]
        if len(functions) == 2:
            return (None, reads, followed_two(self._ledger, *functions))
        return (None, reads, followed_all(self._ledger, functions))

    def _either(self, term):
        constant, others = 0, []
        for value in [self._value(inner) for inner in term[2]]:
            if value[0] is None:
                others.append(value)
            else:
                constant |= value[0]
        if not others:
            return constant_value(constant)
        reads = tuple([site for value in others for site in value[1]])
        return (None, reads, self._either_function(term, constant, [value[2] for value in others]))

    def _either_function(self, term, constant, functions):
        places = [inner[2] for inner in term[2] if inner[0] == "run"]
        if len(places) == 1 and len(functions) == 1:
            return taken_with(places[0], constant)
        asking = [inner for inner in term[2] if is_asking(inner)]
        if len(asking) + len(places) == len(functions) and term[1] == self._root[1]:
            # In the whole body, all that is asked for is in these terms; what their arguments ask for is not.
            if len(asking) == len(self.reads):
                return either_of_sites(constant, places, self._current)
        return either_of(constant, functions)


def is_asking(part):
    """Whether a term is told by what is found at a site of its own."""
    return part[0] == "call" or part[0] == "wrap" and part[2][0] == "with"


class RowBody(Sites):
    """What a row asks for, and how the number of its table is reckoned."""

    def __init__(self, ledger, procedure, current):
        Sites.__init__(self, True)
        many = len(ledger.plan.forms[procedure]) - 1
        for relation in range(ledger.plan.many_relations):
            self.add_row_site(last_packed(many, relation), ledger.contexts[procedure], procedure)
        self.value_of = table_function(ledger, current)


def table_function(ledger, current):
    """The function for the number of the table of a row."""
    return lambda given, asked: ledger.table_number(tuple([current[number] for number in asked]))
