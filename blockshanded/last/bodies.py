"""Bodies made into functions, so that it is quickly reckoned what lasts in many full contexts.

A procedure is made ready once; for each plain context the rest is bound to the relations there. A value is told
here by a tuple: what is barred, if it is the same anyhow, or None; the tuple of the sites that it depends on; the
function that tells it by the meanings and the numbers at the sites, or None if this depends on the plain context;
and what binds it then, to the facts of a plain context.
"""

from blockshanded.mean.bodies import Body
from blockshanded.mean.relations import leading_modes
from blockshanded.mean.sites import constant_value, given_value, last_packed, packed_function, site_value


def shared(value):
    """A value that does not depend on the plain context."""
    return (value[0], value[1], value[2], None)


def bound(value, facts):
    """The function of a value in a plain context."""
    function, bind = value[2], value[3]
    return bind(facts) if function is None else function


def sites_of(values):
    """The sites on which some values depend."""
    return tuple([site for value in values for site in value[1]])


def all_of(constant, functions):
    """The function for the modes that are barred in all of these ways."""
    def told(given, asked):
        barred = constant
        for function in functions:
            barred &= function(given, asked)
        return barred
    return told


def joined(constant, values):
    """The value for what is barred for a choice of what has these values, which are not the same anyhow."""
    if not [value for value in values if value[2] is None]:
        return (None, sites_of(values), all_of(constant, [value[2] for value in values]), None)
    return (None, sites_of(values), None, lambda facts: all_of(constant, [bound(value, facts) for value in values]))


def ahead_of(barred_ahead, function):
    """The function for what is barred ahead of something, by a tuple for all that can be barred for it."""
    return lambda given, asked: barred_ahead[function(given, asked)]


def followed(fact, values, facts):
    """The function for what is barred for a "seq": the fact has a tuple for what is ahead of each of its terms."""
    constant, functions = -1, []
    for barred_ahead, value in zip(facts[fact], values):
        if value[0] is not None:
            constant &= barred_ahead[value[0]]
        elif barred_ahead[0] == barred_ahead[-1]:
            # It does not matter what is barred for a term that is not come to.
            constant &= barred_ahead[0]
        else:
            functions.append(ahead_of(barred_ahead, bound(value, facts)))
    if functions == []:
        return constant_value(constant)[2]
    return all_of(constant, functions)


def looked_up(catalog, place, last, inner):
    """The function for the entry of a handed table, counted back from the last one for a relation."""
    return lambda given, asked: catalog.tables[given[place]][last - inner(given, asked)]


class LastingForm:
    """The body of a procedure, as far as it is the same in all plain contexts.

    A site is a tuple of its values and whether it is a row. The facts of a plain context are what `makers` tell by
    its meanings, and by the numbers at the sites of its body.
    """

    def __init__(self, catalog, procedure, current):
        truths = catalog.truths
        self.sites = []
        self.makers = []
        self._catalog = catalog
        self._plan = truths.plan
        self._current = current
        self._barred_ahead = {}
        self._relations = Body(truths.ledger, procedure, truths.relations_found()).told_by
        self.value = self._value(self._plan.root(procedure))

    def _value(self, part):
        tag = part[0]
        if tag == "do":
            return shared(constant_value(self._catalog.all_modes))
        if tag in ("run", "own"):
            return shared(given_value(part[2]))
        if tag in ("call", "with"):
            return self._site(part[3], tag == "with")
        if tag == "wrap":
            return self._wrapped(part[2], part[3])
        values = [self._value(inner) for inner in part[2]]
        return self._sequence(part[2], values) if tag == "seq" else self._choice(values)

    def _site(self, arguments, is_row):
        values = [self._value(argument) for argument in arguments]
        self.sites.append((values, is_row))
        return shared(site_value(sites_of(values) + (len(self.sites) - 1,), self._current))

    def _wrapped(self, wrap, term):
        if wrap[0] == "with":
            return self._site(wrap[3] + (term,), False)
        inner, catalog, place = self._value(term), self._catalog, wrap[2]
        relation_of = self._relations[term[1]][2]
        fact = len(self.makers)
        self.makers.append(lambda given, asked: catalog.place_in_table(relation_of(given, asked), 0))
        return (None, inner[1], None, lambda facts: looked_up(catalog, place, facts[fact], bound(inner, facts)))

    def _choice(self, values):
        constant = self._catalog.all_modes
        for value in values:
            if value[0] is not None:
                constant &= value[0]
        others = [value for value in values if value[0] is None]
        if others == []:
            return shared(constant_value(constant))
        if len(others) == 1 and constant == self._catalog.all_modes:
            return others[0]
        return joined(constant, others)

    def _sequence(self, terms, values):
        if not [value for value in values if value[0] != self._catalog.all_modes]:
            return shared(constant_value(self._catalog.all_modes))
        fact = len(self.makers)
        self.makers.append(self._made_ahead(terms))
        return (None, sites_of(values), None, lambda facts: followed(fact, values, facts))

    def _made_ahead(self, terms):
        """What makes, for each term of a "seq", the tuple of what is barred ahead of it for all that can be barred."""
        ledger, same = self._catalog.truths.ledger, self._plan.nothing_at_all
        functions = [self._relations[term[1]][2] for term in terms]

        def made(given, asked):
            found = []
            ahead = same
            for function in functions:
                found.append(self.barred_ahead(ahead))
                ahead = ledger.after(ahead, function(given, asked))
            return found
        return made

    def barred_ahead(self, relation):
        """What is barred ahead of something by a relation, for each that can be barred for it."""
        found = self._barred_ahead.get(relation)
        if found is None:
            modes, all_modes = self._plan.many_modes, self._catalog.all_modes
            found = tuple([all_modes - leading_modes(relation, all_modes - barred, modes, modes)
                           for barred in range(all_modes + 1)])
            self._barred_ahead[relation] = found
        return found


class LastingBody:
    """The body of a procedure in a plain context: what it asks for, and how it is reckoned what is barred for it."""

    def __init__(self, catalog, form, plain):
        truths = catalog.truths
        given, targets = truths.ledger.entries[plain][1], truths.numbers_asked(plain)
        facts = [make(given, targets) for make in form.makers]
        self.for_row = False
        self.static_sites = []
        self.dynamic_sites = []
        self.reads = []
        self.feeding = {}
        self.many_sites = len(form.sites)
        self.value_of = bound(form.value, facts)
        for index, (values, is_row) in enumerate(form.sites):
            reads = sites_of(values)
            self.reads.append(reads)
            for site in reads:
                self.feeding[site] = True
            key_of = packed_function([(value[0], value[1], bound(value, facts)) for value in values])
            target = targets[index]
            site = (index, catalog.numbers_at(target), key_of, target, is_row, False)
            if reads:
                self.dynamic_sites.append(site)
            else:
                self.static_sites.append(site)
        self.is_static = self.dynamic_sites == []


class LastingRowBody:
    """What a row asks for, and how the number of its table is reckoned."""

    def __init__(self, catalog, plain, current):
        ledger = catalog.truths.ledger
        many = len(ledger.entries[plain][1])
        self.for_row = True
        self.is_static = True
        self.static_sites = []
        self.dynamic_sites = []
        self.feeding = {}
        for context in ledger.row_contexts(plain):
            for lasting in range(catalog.many_sets):
                key_of = last_packed(many, catalog.all_modes - lasting)
                place = len(self.static_sites)
                self.static_sites.append((place, catalog.numbers_at(context), key_of, context, False, False))
        self.many_sites = len(self.static_sites)
        self.reads = [()] * self.many_sites
        self.value_of = table_function(catalog, current)


def table_function(catalog, current):
    """The function for the number of the table of a row."""
    return lambda given, asked: catalog.table_number(tuple([current[number] for number in asked]))


class LastingLibrary:
    """The bodies in plain contexts, by which it is reckoned what is barred."""

    def __init__(self, catalog):
        self.full = catalog.all_modes
        # The sets are so small that what leads to too much is soon seen to do so, or is left.
        self.is_patient = False
        self._catalog = catalog
        self._forms = {}

    def made_body(self, plain, is_row, current):
        """The body of a plain context, or that of rows of full contexts."""
        if is_row:
            return LastingRowBody(self._catalog, plain, current)
        procedure = self._catalog.truths.ledger.entries[plain][0]
        form = self._forms.get(procedure)
        if form is None:
            form = LastingForm(self._catalog, procedure, current)
            self._forms[procedure] = form
        return LastingBody(self._catalog, form, plain)
