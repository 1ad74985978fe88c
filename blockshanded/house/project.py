"""Projects: programs that change, with promises that stay kept."""

from blockshanded.base.checks import check_program
from blockshanded.base.integers import is_integer
from blockshanded.base.words import is_name
from blockshanded.errors import InvalidNumber, InvalidOperation, NothingToUndo, Refused, UnknownName
from blockshanded.house.promises import is_kept, is_promise
from blockshanded.same.editions import exchanged, without_term


class Standing:
    """A program and the promises about it at some time; it never changes."""

    def __init__(self, program, promises):
        self.program_then = program
        self.promises_then = promises


class Trial:
    """Has a project be again as it was when a block began, once this has ended."""

    def __init__(self, project):
        self._project = project
        self._standing = None
        self._past = None
        self._future = None

    def __enter__(self):
        project = self._project
        self._standing = project._standing
        self._past = project._past
        self._future = project._future
        return project

    def __exit__(self, kind, value, trace):
        project = self._project
        project._standing = self._standing
        project._past = self._past
        project._future = self._future


class Project:
    """A program that changes, and promises about it, each of which is true at all times.

    All that it keeps is replaced as a whole and never changed, so that it can be taken back. The past and the
    future are tuples of pairs: the name of a call, and the standing before, or behind it.
    """

    def __init__(self, program):
        check_program(program)
        self._standing = Standing(program, {})
        self._past = ()
        self._future = ()

    @property
    def program(self):
        """The program as it is now."""
        return self._standing.program_then

    @property
    def promises(self):
        """The promises by their names."""
        promises = self._standing.promises_then
        return {name: promises[name] for name in sorted(promises)}

    @property
    def deeds(self):
        """The names of the calls that changed the project and have not been taken back."""
        return tuple([name for name, _ in self._past])

    def promise(self, name, *terms):
        """Adds a promise."""
        if not is_name(name) or name in self._standing.promises_then:
            raise InvalidOperation("this cannot be the name of a new promise")
        if not is_promise(terms):
            raise InvalidOperation("this is no promise")
        if not is_kept(self.program, terms):
            raise Refused(name)
        promises = self._standing.promises_then
        self._do("promise", self.program, {**promises, name: terms})

    def forget(self, name):
        """Takes a promise out."""
        if name not in self:
            raise UnknownName(name)
        promises = self._standing.promises_then
        self._do("forget", self.program, {other: promises[other] for other in promises if other != name})

    def put(self, program):
        """Puts another program in the place of this one."""
        check_program(program)
        self._change("put", program)

    def leave_out(self, name, number, index):
        """Leaves out a term of an "or" in the body of a procedure."""
        self._change("leave_out", without_term(self.program, name, number, index))

    def exchange(self, one, other):
        """Has all calls and wraps of a procedure be of another one."""
        self._change("exchange", exchanged(self.program, one, other))

    def undo(self, *, many=1):
        """Takes so many calls back; how many can be taken back then."""
        self._check_many(many, self._past)
        for _ in range(many):
            name, before = self._past[-1]
            self._future = self._future + ((name, self._standing),)
            self._past = self._past[:-1]
            self._standing = before
        return len(self._past)

    def redo(self, *, many=1):
        """Does so many calls again that were taken back; how many can be taken back then."""
        self._check_many(many, self._future)
        for _ in range(many):
            name, behind = self._future[-1]
            self._past = self._past + ((name, self._standing),)
            self._future = self._future[:-1]
            self._standing = behind
        return len(self._past)

    def trial(self):
        """What can be entered with this project, which is as before once it is left."""
        return Trial(self)

    def during(self, call):
        """What a call with this project returns, which is as before then."""
        standing, past, future = self._standing, self._past, self._future
        try:
            return call(self)
        finally:
            self._standing, self._past, self._future = standing, past, future

    def twin(self):
        """An independent copy, with all that can be taken back and done again."""
        twin = Project(self.program)
        twin._standing = self._standing
        twin._past = self._past
        twin._future = self._future
        return twin

    def _change(self, name, program):
        """Does a call that makes another program, if it keeps all promises."""
        promises = self.promises
        for promised in promises:
            if not is_kept(program, promises[promised]):
                raise Refused(promised)
        self._do(name, program, promises)

    def _do(self, name, program, promises):
        self._past = self._past + ((name, self._standing),)
        self._future = ()
        self._standing = Standing(program, promises)

    def _check_many(self, many, calls):
        if not is_integer(many) or many < 0:
            raise InvalidNumber(many)
        if many > len(calls):
            raise NothingToUndo(many)

    def __getitem__(self, name):
        # The names are compared one by one: a name that is passed need not be fit for a key.
        if name not in self:
            raise UnknownName(name)
        return self._standing.promises_then[name]

    def __iter__(self):
        raise TypeError("a project cannot be iterated over")

    def __contains__(self, value):
        return value in list(self._standing.promises_then)

    def __len__(self):
        return len(self._standing.promises_then)

    def __eq__(self, other):
        return (isinstance(other, Project) and self.program == other.program
                and self._standing.promises_then == other._standing.promises_then)

    def __str__(self):
        return f"project of {len(self.program)} procedures, {len(self)} promises"
