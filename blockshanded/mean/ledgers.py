"""Numbers for the contexts and the tables that come up for a plan."""

from blockshanded.mean.relations import followed_by

# There are never so many relations or tables that a number of one takes more bits than these.
KEY_BITS = 24
KEY_MASK = (1 << KEY_BITS) - 1


def packed(meanings):
    """Meanings as one number, for a key: the first one in the lowest bits."""
    key = 0
    for place, meaning in enumerate(meanings):
        key |= meaning << (KEY_BITS * place)
    return key


def unpacked(key, many):
    """So many meanings that are packed in a key."""
    if many == 1:
        return (key,)
    return tuple([(key >> (KEY_BITS * place)) & KEY_MASK for place in range(many)])


class Ledger:
    """Gives contexts, rows and tables numbers, so that long tables are compared only once.

    A context is told here by the number of its procedure and the tuple of its meanings, with the numbers of
    tables in the place of tables. What lacks the last of these meanings is a row: that of the contexts with
    each relation in its place. So a row has a table where a context has a relation. Contexts and rows are
    numbered together, from 1 on. For each procedure, `contexts` and `rows` tell the numbers by packed meanings.
    """

    def __init__(self, plan):
        self.plan = plan
        # The number 0 is that of nothing at all: no pairs are ever found for it.
        self.entries = [None]
        self.tables = []
        self.contexts = [{} for _ in plan.titles]
        self.rows = [{} for _ in plan.titles]
        self._table_numbers = {}
        self._row_contexts = {}
        self._followed = {}
        # So the table without any pairs has the number 0, as the relation without any.
        self.table_number((0,) * plan.many_relations)

    def number(self, procedure, meanings):
        """The number of a context or a row."""
        is_row = len(meanings) < len(self.plan.forms[procedure])
        numbers = self.rows[procedure] if is_row else self.contexts[procedure]
        key = packed(meanings)
        number = numbers.get(key)
        return self.added(procedure, key, is_row) if number is None else number

    def added(self, procedure, key, is_row):
        """The number for a context or a row that has none so far, by its packed meanings."""
        number = len(self.entries)
        many = len(self.plan.forms[procedure])
        numbers = self.rows[procedure] if is_row else self.contexts[procedure]
        numbers[key] = number
        self.entries.append((procedure, unpacked(key, many - 1 if is_row else many)))
        return number

    def is_row(self, number):
        """Whether this is the number of a row."""
        procedure, meanings = self.entries[number]
        return len(meanings) < len(self.plan.forms[procedure])

    def row_contexts(self, number):
        """The numbers of the contexts in a row, in the order of the relations behind its meanings."""
        contexts = self._row_contexts.get(number)
        if contexts is None:
            procedure, leading = self.entries[number]
            relations = range(self.plan.many_relations)
            contexts = tuple([self.number(procedure, leading + (relation,)) for relation in relations])
            self._row_contexts[number] = contexts
        return contexts

    def table_number(self, table):
        """The number of a table."""
        number = self._table_numbers.get(table)
        if number is None:
            number = len(self.tables)
            self._table_numbers[table] = number
            self.tables.append(table)
        return number

    def meaning_by(self, number, tell):
        """The relation of a context, or the number of the table of a row, by what tells the relations of contexts."""
        if not self.is_row(number):
            return tell(number)
        return self.table_number(tuple([tell(context) for context in self.row_contexts(number)]))

    def contexts_at(self, number):
        """The contexts of a row, or a context alone."""
        return self.row_contexts(number) if self.is_row(number) else (number,)

    def contexts_among(self, numbers):
        """The contexts among contexts and rows, and those in these rows, each once."""
        found = {context: True for number in numbers for context in self.contexts_at(number)}
        return list(found)

    def after(self, one, other):
        """The relation of one after another one."""
        # Two numbers as one key, since no relation is as great as the number of relations.
        key = one * self.plan.many_relations + other
        relation = self._followed.get(key)
        if relation is None:
            relation = followed_by(one, other, self.plan.many_modes, self.plan.many_ends)
            self._followed[key] = relation
        return relation

    def number_of_told(self, context):
        """The number of a context that is told by the name of its procedure, and by tables."""
        name, meanings = context
        numbers = [self.table_number(meaning) if isinstance(meaning, tuple) else meaning for meaning in meanings]
        return self.number(self.plan.number_of[name], tuple(numbers))

    def told(self, number):
        """A context by the name of its procedure, and by tables."""
        procedure, meanings = self.entries[number]
        kinds = self.plan.forms[procedure]
        if "wrap" in kinds:
            meanings = tuple([self.tables[meaning] if kind == "wrap" else meaning
                              for meaning, kind in zip(meanings, kinds)])
        return self.plan.titles[procedure], meanings
