"""Bodies of procedures, made into functions, so that they are quickly reckoned in many contexts.

A value is told here by a triple: the relation or the number of the table, if it is the same one in all contexts,
or None; the tuple of the sites that it depends on; and a function that tells it by the meanings of a context and
the numbers of what is asked for at each site. A site is where a body asks for a context or a row.
"""

from blockshanded.mean.ledgers import KEY_BITS, packed


def constant_value(meaning):
    """The value that is the same one in all contexts."""
    return (meaning, (), lambda given, asked: meaning)


def given_value(place):
    """The value that is handed for a parameter."""
    return (None, (), lambda given, asked: given[place])


def site_value(index, reads, current):
    """What is found at a site, by the list of what has been found for all numbers."""
    return (None, reads + (index,), lambda given, asked: current[asked[index]])


def packed_two(one, other):
    """The function for the key of two meanings."""
    return lambda given, asked: one(given, asked) | (other(given, asked) << KEY_BITS)


def packed_three(one, other, last):
    """The function for the key of three meanings."""
    rest = packed_two(other, last)
    return lambda given, asked: one(given, asked) | (rest(given, asked) << KEY_BITS)


def packed_function(values):
    """The function for the key of the meanings that are told by these values."""
    if not [value for value in values if value[0] is None]:
        return constant_value(packed([value[0] for value in values]))[2]
    functions = [value[2] for value in values]
    if len(functions) == 1:
        return functions[0]
    return packed_two(*functions) if len(functions) == 2 else packed_three(*functions)


def taken_with(place, constant):
    """The function for a handed relation, with some pairs more."""
    return lambda given, asked: given[place] | constant


def either_of_sites(constant, places, current):
    """The function for all pairs of all sites, of handed relations and of a constant one."""
    def told(given, asked):
        relation = constant
        for place in places:
            relation |= given[place]
        for number in asked:
            relation |= current[number]
        return relation
    return told


def either_of(constant, functions):
    """The function for all pairs of some relations and of a constant one."""
    def told(given, asked):
        relation = constant
        for function in functions:
            relation |= function(given, asked)
        return relation
    return told


def followed_two(ledger, one, other):
    """The function for one relation after another one."""
    return lambda given, asked: ledger.after(one(given, asked), other(given, asked))


def followed_all(ledger, functions):
    """The function for relations one after another."""
    first, *others = functions

    def told(given, asked):
        relation = first(given, asked)
        for function in others:
            relation = ledger.after(relation, function(given, asked))
        return relation
    return told


def looked_up(tables, place, inner):
    """The function for the entry of a handed table."""
    return lambda given, asked: tables[given[place]][inner(given, asked)]


class Body:
    """The body of a procedure: its sites, in the order in which they are asked for, and how it is reckoned.

    A site is a tuple of its index, the dict of the numbers by packed meanings, the function for these, the
    procedure, whether it is a row, and whether its pairs are just added to those of the body. Those that do
    not depend on others are static.
    """

    def __init__(self, ledger, procedure, current):
        self.for_row = False
        self.static_sites = []
        self.dynamic_sites = []
        # For each site the ones that it depends on; and those on which others depend.
        self.reads = []
        self.feeding = {}
        self._ledger = ledger
        self._current = current
        self._root = ledger.plan.root(procedure)
        self._direct = self._direct_parts()
        self.value_of = self._value(self._root)[2]
        self.many_sites = len(self.reads)
        self.is_static = self.dynamic_sites == []

    def _direct_parts(self):
        """The numbers of the terms whose pairs are all pairs of the body."""
        terms = self._root[2] if self._root[0] == "or" else ()
        return {term[1]: True for term in terms}

    def _value(self, part):
        tag = part[0]
        if tag == "do":
            return constant_value(part[2])
        if tag in ("run", "own"):
            return given_value(part[2])
        if tag in ("call", "with"):
            return self._site(part, part[2], [self._value(inner) for inner in part[3]], tag == "with")
        if tag == "wrap":
            return self._wrapped(part, part[2], part[3])
        return self._sequence(part[2]) if tag == "seq" else self._either(part)

    def _wrapped(self, part, wrap, term):
        if wrap[0] == "with":
            return self._site(part, wrap[2], [self._value(inner) for inner in wrap[3] + (term,)], False)
        inner = self._value(term)
        return (None, inner[1], looked_up(self._ledger.tables, wrap[2], inner[2]))

    def _site(self, part, procedure, values, is_row):
        index = len(self.reads)
        reads = tuple([site for value in values for site in value[1]])
        self.reads.append(reads)
        for site in reads:
            self.feeding[site] = True
        numbers = self._ledger.rows[procedure] if is_row else self._ledger.contexts[procedure]
        site = (index, numbers, packed_function(values), procedure, is_row, part[1] in self._direct)
        if reads:
            self.dynamic_sites.append(site)
        else:
            self.static_sites.append(site)
        return site_value(index, reads, self._current)

    def _sequence(self, parts):
        same = self._ledger.plan.nothing_at_all
        values = []
        for value in [self._value(inner) for inner in parts]:
            if values and value[0] is not None and values[-1][0] is not None:
                values[-1] = constant_value(self._ledger.after(values[-1][0], value[0]))
            elif value[0] != same:
                values.append(value)
        if len(values) < 2:
            return values[0] if values else constant_value(same)
        reads = tuple([site for value in values for site in value[1]])
        functions = [value[2] for value in values]
        if len(functions) == 2:
            return (None, reads, followed_two(self._ledger, *functions))
        return (None, reads, followed_all(self._ledger, functions))

    def _either(self, term):
        constant, others = 0, []
        for value in [self._value(inner) for inner in term[2]]:
            if value[0] is None:
                others.append(value)
            else:
                constant |= value[0]
        if not others:
            return constant_value(constant)
        reads = tuple([site for value in others for site in value[1]])
        return (None, reads, self._either_function(term, constant, [value[2] for value in others]))

    def _either_function(self, term, constant, functions):
        places = [inner[2] for inner in term[2] if inner[0] == "run"]
        if len(places) == 1 and len(functions) == 1:
            return taken_with(places[0], constant)
        asking = [inner for inner in term[2] if is_asking(inner)]
        if len(asking) + len(places) == len(functions) and term[1] == self._root[1]:
            # In the whole body, all that is asked for is in these terms; what their arguments ask for is not.
            if len(asking) == len(self.reads):
                return either_of_sites(constant, places, self._current)
        return either_of(constant, functions)


def is_asking(part):
    """Whether a term is told by what is found at a site of its own."""
    return part[0] == "call" or part[0] == "wrap" and part[2][0] == "with"


class RowBody:
    """What a row asks for, in the form of a body."""

    def __init__(self, ledger, procedure, current):
        self.for_row = True
        self.is_static = True
        self.dynamic_sites = []
        self.many_sites = ledger.plan.many_relations
        self.reads = [()] * self.many_sites
        self.feeding = {}
        many = len(ledger.plan.forms[procedure]) - 1
        numbers = ledger.contexts[procedure]
        self.static_sites = [(relation, numbers, last_packed(many, relation << (KEY_BITS * many)), procedure, False,
                              False) for relation in range(self.many_sites)]
        self.value_of = table_function(ledger, current)


def last_packed(many, last):
    """The function for the key of so many meanings of a row with one behind them."""
    if many == 0:
        return constant_value(last)[2]
    return taken_with(0, last) if many == 1 else all_taken_with(last)


def all_taken_with(last):
    """The function for the key of all that is handed, with one meaning behind it."""
    return lambda given, asked: packed(given) | last


def table_function(ledger, current):
    """The function for the number of the table of a row."""
    return lambda given, asked: ledger.table_number(tuple([current[number] for number in asked]))
