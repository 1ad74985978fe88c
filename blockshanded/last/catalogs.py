"""Numbers for full contexts, for the rows of these, and for lasting tables.

The modes from which nothing lasts are called barred here. What is barred is told by a number with a bit for each
of these modes, so that all that is found is found from below.
"""

from blockshanded.mean.ledgers import packed, unpacked


class Catalog:
    """Gives full contexts, rows and lasting tables numbers.

    A full context is told here by the number of its plain context and the tuple of what is barred for each of its
    meanings: modes for a block, the number of a table for a wrap. A table has what is barred for each full meaning
    of a block, in ascending order of these. A row is that of the full contexts with each full meaning of a block
    behind its meanings; it goes with a row of plain contexts. Full contexts and rows are numbered together, from 1 on.
    """

    def __init__(self, truths):
        self.truths = truths
        self.many_sets = 1 << truths.plan.many_modes
        self.all_modes = self.many_sets - 1
        # The number 0 is that of nothing at all: nothing is ever found to be barred for it.
        self.entries = [None]
        self.tables = []
        self._numbers = {}
        self._table_numbers = {}
        self._row_contexts = {}
        self.table_number((0,) * (truths.plan.many_relations * self.many_sets))

    def numbers_at(self, plain):
        """The dict from packed meanings to numbers for a plain context, or a row of plain contexts."""
        return self._numbers.setdefault(plain, {})

    def number(self, plain, given):
        """The number of a full context or a row."""
        numbers = self.numbers_at(plain)
        key = packed(given)
        number = numbers.get(key)
        return self.added(plain, key, self.truths.ledger.is_row(plain)) if number is None else number

    def added(self, plain, key, is_row):
        """The number for a full context or a row that has none so far, by its packed meanings."""
        number = len(self.entries)
        procedure = self.truths.ledger.entries[plain][0]
        many = len(self.truths.plan.forms[procedure])
        numbers = self.numbers_at(plain)
        numbers[key] = number
        self.entries.append((plain, unpacked(key, many - 1 if is_row else many)))
        return number

    def is_row(self, number):
        """Whether this is the number of a row."""
        return self.truths.ledger.is_row(self.entries[number][0])

    def row_contexts(self, number):
        """The numbers of the full contexts in a row, in the order of the full meanings behind its meanings."""
        contexts = self._row_contexts.get(number)
        if contexts is None:
            plain, leading = self.entries[number]
            contexts = tuple([self.number(context, leading + (self.all_modes - lasting,))
                              for context in self.truths.ledger.row_contexts(plain)
                              for lasting in range(self.many_sets)])
            self._row_contexts[number] = contexts
        return contexts

    def contexts_among(self, numbers):
        """The full contexts among full contexts and rows, and those in these rows, each once."""
        found = {}
        for number in numbers:
            for context in self.row_contexts(number) if self.is_row(number) else (number,):
                found[context] = True
        return list(found)

    def table_number(self, table):
        """The number of a table of what is barred."""
        number = self._table_numbers.get(table)
        if number is None:
            number = len(self.tables)
            self._table_numbers[table] = number
            self.tables.append(table)
        return number

    def meaning_by(self, number, tell):
        """What is barred for a full context, or the number of the table of a row, by what tells it for contexts."""
        if not self.is_row(number):
            return tell(number)
        return self.table_number(tuple([tell(context) for context in self.row_contexts(number)]))

    def place_in_table(self, relation, barred):
        """Where a table has what it tells for a block with a relation for which these modes are barred."""
        return relation * self.many_sets + self.all_modes - barred

    def number_of_told(self, context):
        """The number of a full context that is told by its full meanings."""
        name, meanings = context
        plain = self.truths.ledger.number_of_told((name, tuple([meaning[0] for meaning in meanings])))
        return self.number(plain, tuple([self._barred(meaning[1]) for meaning in meanings]))

    def _barred(self, lasting):
        if isinstance(lasting, tuple):
            return self.table_number(tuple([self.all_modes - modes for modes in lasting]))
        return self.all_modes - lasting

    def told(self, number):
        """A full context by its full meanings."""
        plain, given = self.entries[number]
        name, meanings = self.truths.ledger.told(plain)
        full = []
        for meaning, barred in zip(meanings, given):
            if isinstance(meaning, tuple):
                full.append((meaning, tuple([self.all_modes - modes for modes in self.tables[barred]])))
            else:
                full.append((meaning, self.all_modes - barred))
        return name, tuple(full)
