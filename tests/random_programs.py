"""Random programs, the same ones each time."""

import random

from blockshanded.base.procedures import Procedure, is_term
from blockshanded.base.programs import Program

WORDS = ("a", "b", "c")
DONE = ("seq",)


class Maker:
    """Makes the bodies of one program."""

    def __init__(self, seed):
        self.random = random.Random(seed)
        self.modes = self.random.choice((1, 2, 2, 2, 3))
        self.names = ["main"] + list("pqrstuv")[:self.random.randint(1, 5)]
        kinds = ("block", "wrap") if self.modes < 3 and self.random.random() < 0.8 else ("block",)
        self.parameters = {"main": ()}
        for name in self.names[1:]:
            many = self.random.randint(0, 3)
            self.parameters[name] = tuple((x, self.random.choice(kinds)) for x in "xyz"[:many])
        self.calls = self.random.choice((0.2, 0.35, 0.5))
        self.wraps = self.random.choice((0.1, 0.2, 0.3))
        self.gaps = self.random.choice((0, 0.2, 0.4))
        self.left = 0

    def program(self):
        return Program(self.modes, *[self.procedure(name) for name in self.names])

    def procedure(self, name):
        parameters = self.parameters[name]
        for _ in range(20):
            self.left = self.random.choice((5, 10, 20))
            body = self.term(parameters, self.random.choice((3, 4, 5)))
            if name != "main" and self.random.random() < 0.5:
                body = ("or", DONE, body)
            if is_term(body, parameters):
                return Procedure(name, parameters, body)
        return Procedure(name, parameters, DONE)

    def deed(self):
        entries = [None if self.random.random() < self.gaps else self.random.randrange(self.modes)
                   for _ in range(self.modes)]
        return ("do", self.random.choice(WORDS), tuple(entries))

    def own(self, parameters, kind):
        """The names of the parameters of a kind."""
        return [name for name, own in parameters if own == kind]

    def term(self, parameters, depth):
        self.left -= 1
        blocks = self.own(parameters, "block")
        if depth <= 1 or self.left <= 0:
            return ("run", self.random.choice(blocks)) if blocks and self.random.random() < 0.5 else self.deed()
        share = self.random.random()
        if share < self.calls:
            return self.named("call", self.random.choice(self.names), parameters, depth, 0) or self.deed()
        if share < self.calls + self.wraps:
            wrap = self.wrap(parameters, depth - 1)
            return ("wrap", wrap, self.term(parameters, depth - 1)) if wrap else self.deed()
        if share < 0.85:
            many = self.random.randint(1, 3)
            tag = self.random.choice(("seq", "or"))
            return (tag,) + tuple(self.term(parameters, depth - 1) for _ in range(many))
        return ("run", self.random.choice(blocks)) if blocks else self.deed()

    def wrap(self, parameters, depth):
        self.left -= 1
        owns = self.own(parameters, "wrap")
        if owns and (depth <= 1 or self.random.random() < 0.5):
            return ("own", self.random.choice(owns))
        withs = [name for name in self.names if self.parameters[name] and self.parameters[name][-1][1] == "block"]
        if not withs or depth < 0:
            return None
        return self.named("with", self.random.choice(withs), parameters, depth, 1)

    def named(self, tag, name, parameters, depth, fewer):
        """A call or a wrap of a procedure, or None."""
        kinds = [kind for _, kind in self.parameters[name]]
        makers = {"block": self.term, "wrap": self.wrap}
        arguments = [makers[kind](parameters, depth - 1) for kind in kinds[:len(kinds) - fewer]]
        return None if None in arguments else (tag, name) + tuple(arguments)


def random_program(seed):
    """The random program with this number."""
    return Maker(seed).program()
