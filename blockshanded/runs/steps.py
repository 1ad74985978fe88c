"""The steps of a run, taken one by one."""


def handed(part, around):
    """What is handed for a parameter: a term or a wrap, with what was handed where it stands."""
    if part[0] == "own":
        return around[part[1]]
    return part, around


class Walk:
    """A run on its way: its mode, what it did, and the terms that are left, the next one at the end."""

    def __init__(self, program, mode):
        self._program = program
        self._left = [(program["main"].body, {})]
        self.mode_now = mode
        self.deeds_done = []
        self.steps_taken = 0
        self.is_stuck = False

    def is_over(self):
        """Whether no term is left."""
        return len(self._left) == 0

    def many_options(self):
        """The number of the terms among which the next step chooses, or 0."""
        term, _ = self._left[-1]
        return len(term) - 1 if term[0] == "or" else 0

    def has_just_done(self, word):
        """Whether the last of the deeds that were done has this word."""
        return self.deeds_done[-1:] == [word]

    def take(self, choice):
        """Takes one step; the choice matters for an "or" alone."""
        term, around = self._left.pop()
        self.steps_taken += 1
        if term[0] == "do":
            self._do(term)
        elif term[0] == "seq":
            for inner in reversed(list(term[1:])):
                self._left.append((inner, around))
        elif term[0] == "or":
            self._left.append((term[1 + choice], around))
        elif term[0] == "run":
            self._left.append(around[term[1]])
        elif term[0] == "call":
            self._enter(term[1], [handed(argument, around) for argument in term[2:]])
        else:
            self._wrap(term, around)

    def _do(self, term):
        following = term[2][self.mode_now]
        if following is None:
            self.is_stuck = True
        else:
            self.mode_now = following
            self.deeds_done.append(term[1])

    def _wrap(self, term, around):
        wrap, wrap_around = handed(term[1], around)
        arguments = [handed(argument, wrap_around) for argument in wrap[2:]]
        self._enter(wrap[1], arguments + [(term[2], around)])

    def _enter(self, name, arguments):
        procedure = self._program[name]
        names = [parameter[0] for parameter in procedure.parameters]
        self._left.append((procedure.body, dict(zip(names, arguments))))
