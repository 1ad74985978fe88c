"""Spaces: the relations of blocks, and the tables of wraps around them."""

from blockshanded.base.integers import are_integers_below, is_integer_in
from blockshanded.base.terms import MAX_MODES
from blockshanded.errors import InvalidMeaning, InvalidNumber, InvalidOperation
from blockshanded.mean.relations import followed_by, is_growing, pairs_of, same_of


class Space:
    """The relations of blocks with so many modes, plain or with the end of a watched word; it never changes."""

    def __init__(self, modes, *, watched=False):
        if not is_integer_in(modes, 1, MAX_MODES):
            raise InvalidNumber(modes)
        if not isinstance(watched, bool):
            raise InvalidOperation("watched is True or False")
        self._modes = modes
        self._watched = watched
        self._ends = modes + 1 if watched else modes
        self._size = 1 << (modes * self._ends)
        self._same = same_of(modes, self._ends)

    @property
    def modes(self):
        """The number of modes."""
        return self._modes

    @property
    def watched(self):
        """Whether there is the end of a watched word."""
        return self._watched

    @property
    def ends(self):
        """The number of ends."""
        return self._ends

    @property
    def size(self):
        """The number of relations."""
        return self._size

    @property
    def same(self):
        """The relation of all pairs (m, m)."""
        return self._same

    def pairs(self, relation):
        """The pairs of a relation, ascending."""
        self._check_relation(relation)
        return tuple(pairs_of(relation, self._modes, self._ends))

    def relation(self, pairs):
        """The number of the relation with these pairs."""
        if not isinstance(pairs, tuple) or not all([self._is_pair(pair) for pair in pairs]):
            raise InvalidMeaning("these are no pairs of a mode and an end")
        if len(set(pairs)) != len(pairs):
            raise InvalidMeaning("a pair is there twice")
        return sum([1 << (mode * self._ends + end) for mode, end in pairs])

    def followed(self, one, other):
        """One relation after another one."""
        self._check_relation(one)
        self._check_relation(other)
        return followed_by(one, other, self._modes, self._ends)

    def either(self, one, other):
        """The relation of all pairs of both."""
        self._check_relation(one)
        self._check_relation(other)
        return one | other

    def is_within(self, one, other):
        """Whether each pair of the first relation is in the second one."""
        self._check_relation(one)
        self._check_relation(other)
        return (one | other) == other

    def is_table(self, value):
        """Whether the value is a tuple with a relation for each relation."""
        return isinstance(value, tuple) and len(value) == self._size and are_integers_below(value, self._size)

    def is_monotone(self, table):
        """Whether the table has all pairs for a relation that it has for those within this one."""
        self._check_table(table)
        return is_growing(table, self._modes * self._ends)

    def composed(self, one, other):
        """The table of the first wrap around what the second one is around a block."""
        self._check_table(one)
        self._check_table(other)
        return tuple([one[relation] for relation in other])

    def _is_relation(self, value):
        return is_integer_in(value, 0, self._size - 1)

    def _is_pair(self, value):
        if not isinstance(value, tuple) or len(value) != 2:
            return False
        return is_integer_in(value[0], 0, self._modes - 1) and is_integer_in(value[1], 0, self._ends - 1)

    def _check_relation(self, value):
        if not self._is_relation(value):
            raise InvalidNumber(value)

    def _check_table(self, value):
        if not self.is_table(value):
            raise InvalidMeaning("this is no table")

    def __eq__(self, other):
        return isinstance(other, Space) and self._modes == other._modes and self._watched == other._watched

    def __str__(self):
        behind = ", watched" if self._watched else ""
        return f"{self._size} relations of {self._modes} modes{behind}"
