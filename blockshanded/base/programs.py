"""Programs: procedures that fit together, over some modes."""

from blockshanded.base.integers import is_integer_in
from blockshanded.base.procedures import Procedure
from blockshanded.base.terms import MAX_MODES, all_parts, kinds_of
from blockshanded.errors import InvalidOperation, InvalidProgram, UnknownName

MAX_PROCEDURES = 8
MAX_MODES_WITH_WRAPS = 2


def kinds_by_name(procedures):
    """The dict from the names of procedures to the kinds of their parameters."""
    return {procedure.named: procedure.kinds for procedure in procedures}


def have_wraps(procedures):
    """Whether some parameter of a procedure is a wrap."""
    return any(["wrap" in procedure.kinds for procedure in procedures])


def are_procedures(values):
    """Whether these are procedures with different names, one of them main without parameters."""
    if len(values) > MAX_PROCEDURES or not all([isinstance(value, Procedure) for value in values]):
        return False
    kinds = kinds_by_name(values)
    return len(kinds) == len(values) and kinds.get("main") == ()


def fits(part, modes, kinds):
    """Whether a term or wrap can stand in a program, whose procedures have parameters of these kinds.

    Only the term or wrap itself is looked at, not the parts in it.
    """
    if part[0] == "do":
        return len(part[2]) == modes and all([entry is None or entry < modes for entry in part[2]])
    if part[0] == "call":
        return kinds.get(part[1]) == kinds_of(part[2:])
    if part[0] == "with":
        return kinds.get(part[1]) == kinds_of(part[2:]) + ("block",)
    return True


def can_make_program(modes, procedures):
    """Whether there is a program with so many modes and with these procedures."""
    if not is_integer_in(modes, 1, MAX_MODES) or not are_procedures(procedures):
        return False
    if modes > MAX_MODES_WITH_WRAPS and have_wraps(procedures):
        return False
    kinds = kinds_by_name(procedures)
    parts = [part for procedure in procedures for part in all_parts(procedure.body)]
    return all([fits(part, modes, kinds) for part in parts])


class Program:
    """Modes and procedures, one of which is main; it never changes."""

    def __init__(self, modes, *procedures):
        if not can_make_program(modes, procedures):
            raise InvalidProgram("these modes and procedures make no program")
        self._modes = modes
        self._procedures = procedures
        self._by_name = {procedure.named: procedure for procedure in procedures}
        self._names = tuple(sorted(self._by_name))
        self._words = tuple(sorted({word for procedure in procedures for word in procedure.words}))
        self._has_wraps = have_wraps(procedures)

    @classmethod
    def of(cls, modes, procedures):
        """The program with the procedures in a tuple."""
        if not isinstance(procedures, tuple):
            raise InvalidProgram("the procedures are no tuple")
        return cls(modes, *procedures)

    @property
    def modes(self):
        """The number of its modes."""
        return self._modes

    @property
    def procedures(self):
        """Its procedures, in their order."""
        return self._procedures

    @property
    def names(self):
        """The names of its procedures, ascending."""
        return self._names

    @property
    def words(self):
        """The words of all its deeds, ascending."""
        return self._words

    @property
    def has_wraps(self):
        """Whether some parameter is a wrap."""
        return self._has_wraps

    def with_procedure(self, procedure):
        """The program with this procedure in the place of the one with its name, or as the last one."""
        if not isinstance(procedure, Procedure):
            raise InvalidProgram("this is no procedure")
        if procedure.named not in self._names:
            return Program(self._modes, *self._procedures, procedure)
        changed = [procedure if own.named == procedure.named else own for own in self._procedures]
        return Program(self._modes, *changed)

    def without(self, name):
        """The program without the procedure with this name."""
        if name not in self._names:
            raise UnknownName(name)
        left = tuple([own for own in self._procedures if own.named != name])
        if not can_make_program(self._modes, left):
            raise InvalidOperation("what is left is no program")
        return Program(self._modes, *left)

    def __getitem__(self, name):
        # The names are compared one by one: a name that is passed need not be fit for a key.
        if name not in self._names:
            raise UnknownName(name)
        return self._by_name[name]

    def __iter__(self):
        raise TypeError("a program cannot be iterated over")

    def __contains__(self, value):
        return value in self._names

    def __len__(self):
        return len(self._procedures)

    def __eq__(self, other):
        return (isinstance(other, Program) and self._modes == other._modes
                and self._procedures == other._procedures)

    def __str__(self):
        return f"program of {self._modes} modes, {len(self._procedures)} procedures"
