"""Programs whose runs are long, or are found by long ways."""

from blockshanded.base.procedures import Procedure
from blockshanded.base.programs import Program
from tests.samples import AGAIN

DONE = ("seq",)
TICK = ("do", "tick", (0, 1))
TEN = Procedure("ten", (("b", "block"),), ("seq",) + (("run", "b"),) * 10)


def tenfold(deep, block):
    """The block, run ten times ten times .. ten times."""
    for _ in range(deep):
        block = ("call", "ten", block)
    return block


def main(body, *others, modes=2):
    """A program with this body of main."""
    return Program(modes, Procedure("main", (), body), *others)


def long_way(deep, *behind):
    """A program that ticks ten times ten times .. ten times, and then does the deeds behind."""
    return main(("seq", tenfold(deep, TICK)) + behind, TEN)


def long_or_deep(calls):
    """A program that ticks a thousand times, or is in a procedure by so many calls, and turns to the mode 1 then."""
    names = "abcde"[:calls]
    bodies = [("call", name) for name in names[1:]] + [DONE]
    body = ("seq", ("or", tenfold(3, TICK), ("call", names[0])), ("do", "turn", (1, None)))
    return main(body, TEN, *[Procedure(name, (), inner) for name, inner in zip(names, bodies)])


def wrapped_work(*behind):
    """A program that does work in a wrap, or in this wrap of this wrap, and so on.

    From the mode 0 one wrap leads to 1, and from 1 to 0; two lead from 1 to 1; more lead nowhere.
    """
    step = Procedure("step", (("b", "block"),), (
        "or", ("seq", ("run", "b"), ("do", "up", (1, None))), ("seq", ("do", "down", (None, 0)), ("run", "b"))))
    grow = Procedure("grow", (("w", "wrap"),), (
        "or", ("wrap", ("own", "w"), ("do", "work", (0, None))), ("call", "grow", ("with", "again", ("own", "w")))))
    return main(("seq", ("call", "grow", ("with", "step"))) + behind, step, AGAIN, grow)
