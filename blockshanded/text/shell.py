"""A shell: programs under names, and commands about them."""

from blockshanded.ask.ends import ends
from blockshanded.ask.idle import is_idle
from blockshanded.ask.words import can_do
from blockshanded.base.words import is_name
from blockshanded.errors import InvalidCommand, InvalidOperation, TooMany, UnknownName
from blockshanded.mean.books import book_of
from blockshanded.same.editions import exchanged, without_term
from blockshanded.same.tables import are_alike
from blockshanded.text.forms import is_number
from blockshanded.text.texts import read_program, write_program

MAX_PROGRAMS = 8

# What stands behind the first word of a command: a program that is there, one that is made, a name, or a number.
FORMS = {
    "new": ("made",),
    "copy": ("there", "made"),
    "drop": ("there",),
    "cut": ("there", "name", "number", "number"),
    "turn": ("there", "name", "name"),
    "text": ("there",),
    "ends": ("there", "number"),
    "does": ("there", "number", "name"),
    "idle": ("there", "name", "name"),
    "alike": ("there", "name", "name"),
    "size": ("there",),
}

# Those that change what is there; the others are questions.
CHANGES = ("new", "copy", "drop", "cut", "turn")


def arguments_of(words):
    """What the words behind the first one of a command tell; None if they have not its form."""
    forms = FORMS.get(words[0], None)
    if forms is None or len(words) != 1 + len(forms):
        return None
    told = []
    for word, form in zip(words[1:], forms):
        if form == "number":
            if not is_number(word):
                return None
            told.append(int(word))
        else:
            if not is_name(word):
                return None
            told.append(word)
    return told


def answer_to(kind, program, rest):
    """The reply to a question about a program."""
    if kind == "text":
        return write_program(program)
    if kind == "ends":
        return ends(program, *rest)
    if kind == "does":
        return can_do(program, *rest)
    if kind == "idle":
        return is_idle(program, *rest)
    if kind == "alike":
        return are_alike(program, *rest)
    return len(book_of(program))


class Shell:
    """Programs under names, which are changed and asked by commands."""

    def __init__(self):
        # Replaced as a whole and never changed, as is the script.
        self._programs = {}
        self._script = ()

    @classmethod
    def replayed(cls, script):
        """The shell behind the commands of a script."""
        if not isinstance(script, tuple):
            raise InvalidCommand("a script is a tuple of commands")
        shell = cls()
        for command in script:
            shell.run(command)
        return shell

    @property
    def names(self):
        """The names of the programs, ascending."""
        return tuple(sorted(self._programs))

    @property
    def programs(self):
        """The programs by their names."""
        return {name: self._programs[name] for name in sorted(self._programs)}

    @property
    def script(self):
        """The commands that changed the programs, in order."""
        return self._script

    def run(self, command):
        """Does a command; its reply."""
        if not isinstance(command, str):
            raise InvalidCommand("a command is a string")
        line, newline, text = command.partition("\n")
        words = line.split(" ")
        arguments = arguments_of(words)
        # There is a text below the line of "new", and nothing below the others.
        if arguments is None or (words[0] == "new") != (newline != ""):
            raise InvalidCommand("this is none of the commands")
        self._check_names(FORMS[words[0]], arguments)
        if words[0] not in CHANGES:
            return answer_to(words[0], self._programs[arguments[0]], arguments[1:])
        reply = self._change(words[0], arguments, text)
        self._script = self._script + (command,)
        return reply

    def _check_names(self, forms, arguments):
        """Raises an error unless just those programs are there that have to be."""
        for form, name in zip(forms, arguments):
            if form == "there" and name not in self._programs:
                raise UnknownName(name)
        for form, name in zip(forms, arguments):
            if form == "made" and name in self._programs:
                raise InvalidOperation("a program has this name")

    def _change(self, kind, arguments, text):
        """Does a command that changes the programs; its reply."""
        name = arguments[0]
        if kind == "new":
            program = read_program(text)
            self._keep(name, program)
            return str(program)
        if kind == "copy":
            self._keep(arguments[1], self._programs[name])
            return None
        if kind == "drop":
            self._programs = {other: self._programs[other] for other in self._programs if other != name}
            return None
        rest = arguments[1:]
        if kind == "cut":
            program = without_term(self._programs[name], *rest)
        else:
            program = exchanged(self._programs[name], *rest)
        self._keep(name, program)
        return write_program(program)

    def _keep(self, name, program):
        if name not in self._programs and len(self._programs) == MAX_PROGRAMS:
            raise TooMany(MAX_PROGRAMS)
        programs = self._programs
        self._programs = {**programs, name: program}

    def __call__(self, command):
        return self.run(command)

    def __contains__(self, value):
        return value in list(self._programs)

    def __len__(self):
        return len(self._programs)

    def __eq__(self, other):
        return isinstance(other, Shell) and self._programs == other._programs

    def __str__(self):
        return f"shell of {len(self._programs)} programs"
