"""Procedures: a name, parameters, and a body."""

from blockshanded.base.terms import KINDS, all_parts, has_form, kind_of, kinds_in, parts_in
from blockshanded.base.words import is_name
from blockshanded.errors import InvalidProgram

MAX_PARAMETERS = 3
MAX_DEPTH = 6
MAX_TERMS = 40


def is_parameter(value):
    """Whether the value is a pair of a name and a kind."""
    return isinstance(value, tuple) and len(value) == 2 and is_name(value[0]) and value[1] in KINDS


def are_parameters(value):
    """Whether the value can be the parameters of a procedure."""
    if not isinstance(value, tuple) or len(value) > MAX_PARAMETERS:
        return False
    if not all([is_parameter(pair) for pair in value]):
        return False
    return len({pair[0] for pair in value}) == len(value)


def is_term(value, parameters):
    """Whether the value can be the body of a procedure with these parameters."""
    if not are_parameters(parameters):
        raise InvalidProgram("these cannot be parameters")
    pending = [(value, ("block",), 1)]
    many = 0
    while pending:
        part, kinds, depth = pending.pop()
        many += 1
        # The limits are looked at first, so that a value beyond them is not walked through.
        if many > MAX_TERMS or depth > MAX_DEPTH:
            return False
        if kind_of(part) not in kinds or not has_form(part, parameters):
            return False
        for inner, allowed in zip(parts_in(part), kinds_in(part)):
            pending.append((inner, allowed, depth + 1))
    return True


class Procedure:
    """A piece of a program that can be handed blocks and wraps; it never changes."""

    def __init__(self, name, parameters, body):
        if not is_name(name):
            raise InvalidProgram("this cannot be the name of a procedure")
        if not is_term(body, parameters):
            raise InvalidProgram("this cannot be the body of a procedure with these parameters")
        self._named = name
        self._parameters = parameters
        self._body = body
        self._parts = all_parts(body)
        self._kinds = tuple([kind for _, kind in parameters])
        self._words = tuple(sorted({part[1] for part in self._parts if part[0] == "do"}))
        self._uses = tuple(sorted({part[1] for part in self._parts if part[0] in ("call", "with")}))

    @property
    def named(self):
        """Its name."""
        return self._named

    @property
    def parameters(self):
        """The pairs of the names and the kinds of its parameters."""
        return self._parameters

    @property
    def body(self):
        """The term that it does."""
        return self._body

    @property
    def kinds(self):
        """The kinds of its parameters."""
        return self._kinds

    @property
    def words(self):
        """The words of its deeds, ascending."""
        return self._words

    @property
    def uses(self):
        """The names of the procedures in its terms and wraps, ascending."""
        return self._uses

    def __len__(self):
        return len(self._parts)

    def __eq__(self, other):
        return (isinstance(other, Procedure) and self._named == other._named
                and self._parameters == other._parameters and self._body == other._body)

    def __str__(self):
        return f"procedure {self._named}, {len(self._parameters)} parameters, {len(self._parts)} terms"
