"""What full contexts look like, and dicts from them to sets of modes."""

from blockshanded.base.integers import are_integers_below, is_integer_in
from blockshanded.mean.reckoning import kinds_in
from blockshanded.mean.relations import is_growing
from blockshanded.mean.spaces import Space


class FullForms:
    """The forms of full contexts of a program, and of dicts from them to sets."""

    def __init__(self, program):
        self._space = Space(program.modes)
        self._bits = program.modes * program.modes + program.modes
        self._many_sets = 1 << program.modes
        self._kinds_by_name = kinds_in(program)
        # The tables that have been looked at, and whether they are monotone.
        self._looked_at = {}

    def is_set(self, value):
        """Whether the value is a set of modes, told by a number."""
        return is_integer_in(value, 0, self._many_sets - 1)

    def is_context(self, value):
        """Whether the value is a full context."""
        if not isinstance(value, tuple) or len(value) != 2 or not isinstance(value[0], str):
            return False
        kinds, meanings = self._kinds_by_name.get(value[0]), value[1]
        if kinds is None or not isinstance(meanings, tuple) or len(meanings) != len(kinds):
            return False
        return all([self._is_meaning(meaning, kind) for meaning, kind in zip(meanings, kinds)])

    def is_dict(self, value):
        """Whether the value is a dict from full contexts to sets."""
        if not isinstance(value, dict) or not all([self.is_context(context) for context in value]):
            return False
        return are_integers_below(list(value.values()), self._many_sets)

    def are_blocks(self, value, many):
        """Whether the value is a tuple of so many full meanings of blocks."""
        return isinstance(value, tuple) and len(value) == many and all([self._is_block(meaning) for meaning in value])

    def has_monotone_lasting_tables(self, context):
        """Whether the lasting tables of a full context are monotone."""
        return all([is_growing(lasting, self._bits) for _, lasting in context[1] if isinstance(lasting, tuple)])

    def _is_meaning(self, value, kind):
        if kind == "block":
            return self._is_block(value)
        return isinstance(value, tuple) and len(value) == 2 and self._is_wrap(value[0], value[1])

    def _is_block(self, value):
        if not isinstance(value, tuple) or len(value) != 2:
            return False
        return is_integer_in(value[0], 0, self._space.size - 1) and self.is_set(value[1])

    def _is_wrap(self, table, lasting):
        if not self._space.is_table(table) or not self._is_monotone(table):
            return False
        if not isinstance(lasting, tuple) or len(lasting) != len(table) * self._many_sets:
            return False
        return are_integers_below(lasting, self._many_sets)

    def _is_monotone(self, table):
        if table not in self._looked_at:
            self._looked_at[table] = self._space.is_monotone(table)
        return self._looked_at[table]
