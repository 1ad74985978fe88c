"""Programs that last in several ways, and such that do not."""

from blockshanded.base.procedures import Procedure
from blockshanded.base.programs import Program
from tests.long_runs import DONE, main
from tests.samples import AGAIN, FLIP, FLIPS, LOCKED, LOCKS, LOOP, SKIP, TWICE

BLOCK = (("b", "block"),)
WRAP = (("w", "wrap"),)
SPIN = Procedure("spin", (), ("call", "spin"))
ONCE = Procedure("once", BLOCK, ("run", "b"))
STAY = ("do", "stay", (0, 1))
ONLY = ("do", "only", (0, None))
NEVER = ("do", "never", (None, None))
USE = Procedure("use", WRAP, ("wrap", ("own", "w"), STAY))


def ring(many, back=True):
    """Procedures that call one another in a ring, or, without the way back, one after another."""
    names = "abcdefg"[:many]
    calls = [("call", name) for name in names[1:]] + [("call", names[0]) if back else DONE]
    return [Procedure(name, (), ("seq", STAY, call)) for name, call in zip(names, calls)]


# For each program the modes from which it lasts.
LASTING = {
    "loop": (LOOP, (0,)), "locks": (LOCKS, (0, 1)), "flips": (FLIPS, ()), "skip": (SKIP, ()),
    "spin": (main(("call", "spin"), SPIN), (0, 1)),
    "nothing": (main(DONE), ()), "a deed": (main(FLIP), ()), "stuck": (main(NEVER), ()),
    "itself": (main(("call", "main")), (0, 1)),
    "behind a deed": (main(("seq", ONLY, ("call", "spin")), SPIN), (0,)),
    "behind a turn": (main(("seq", FLIP, ONLY, ("call", "spin")), SPIN), (1,)),
    "behind what is stuck": (main(("seq", NEVER, ("call", "spin")), SPIN), ()),
    "ahead of what is stuck": (main(("seq", ("call", "spin"), NEVER), SPIN), (0, 1)),
    "by choice": (main(("or", DONE, ("seq", ONLY, ("call", "main")))), (0,)),
    "ends too": (main(("or", FLIP, ("call", "spin")), SPIN), (0, 1)),
    "by a block": (main(("call", "once", ("call", "spin")), ONCE, SPIN), (0, 1)),
    "by a block that is not run": (main(("call", "drop", ("call", "spin")), Procedure("drop", BLOCK, DONE), SPIN), ()),
    "by a block where it can": (main(("call", "twice", ("or", ("seq", ONLY, FLIP), ("seq", FLIP, ONLY, ("call", "spin")))), TWICE, SPIN), (0, 1)),
    "by a wrap": (main(("call", "use", ("with", "goes")), USE, Procedure("goes", BLOCK, ("seq", ("run", "b"), ONLY, ("call", "spin"))), SPIN), (0,)),
    "by the block of a wrap": (main(("wrap", ("with", "locked"), ("call", "spin")), LOCKED, SPIN), (0,)),
    "by a wrap that is handed on": (main(("call", "more", ("with", "locked")), LOCKED, AGAIN, Procedure("more", WRAP, (
        "or", ("wrap", ("own", "w"), ("call", "spin")), ("call", "use", ("with", "again", ("own", "w"))))), USE, SPIN), (0,)),
    "a wrap that does not last": (main(("call", "use", ("with", "locked")), USE, LOCKED), ()),
    "in a ring": (main(("call", "a"), *ring(5)), (0, 1)),
    "one after another": (main(("call", "a"), *ring(5, False)), ()),
    "ring with a hole": (main(("call", "a"), *ring(3)[:2], Procedure("c", (), ("seq", ("do", "turn", (1, None)), ("call", "a")))), ()),
    "ring from one mode": (main(("call", "a"), *ring(3)[:2], Procedure("c", (), ("seq", ONLY, ("call", "a")))), (0,)),
    "without any deed": (main(("or", ("seq", ("call", "main")), DONE)), (0, 1)),
    "three modes": (main(("or", ("seq", ("do", "a", (1, 2, None)), ("call", "main")), ("do", "b", (0, 0, 0))), modes=3), ()),
    "three modes in a ring": (main(("seq", ("do", "a", (1, 0, 1)), ("call", "main")), modes=3), (0, 1, 2)),
    "one mode of three": (main(("seq", ("do", "a", (None, 2, 2)), ("call", "main")), modes=3), (1, 2)),
    "deeper and deeper": (main(("call", "f", DONE), Procedure("f", BLOCK, ("call", "f", ("seq", ("run", "b"), FLIP)))), (0, 1)),
    "until it is stuck": (main(("call", "f", FLIP), Procedure("f", BLOCK, ("seq", ("run", "b"), ("do", "a", (1, None)), ("call", "f", (
        "seq", ("run", "b"), ("do", "c", (None, 1))))))), ()),
}
