"""Programs that need many contexts, in the end or on the way."""

from blockshanded.base.procedures import Procedure
from blockshanded.base.programs import Program

DONE = ("seq",)
ENTRIES = (None, 0, 1)
# Nine deeds with different relations.
DEEDS = [("do", "go", (one, other)) for one in ENTRIES for other in ENTRIES]
# Two deeds which together have all pairs.
ALL = ("or", ("do", "go", (0, 0)), ("do", "go", (1, 1)))
PAIR = Procedure("pair", (("x", "block"), ("y", "block"), ("z", "block")), DONE)
THREE = Procedure("three", (("u", "wrap"), ("v", "wrap"), ("w", "wrap")), DONE)
ONE = Procedure("one", (("x", "block"),), DONE)


def handing(leading, seconds):
    """Calls that hand a wrap for each of the second blocks: each needs a context for each relation."""
    wraps = [("with", "pair", leading, second) for second in seconds]
    wraps += [wraps[0]] * (-len(wraps) % 3)
    return tuple(("call", "three") + tuple(wraps[place:place + 3]) for place in range(0, len(wraps), 3))


BRANCH = Procedure("branch", (("x", "block"),), ("or",) + handing(("run", "x"), DEEDS))


def crowd(rows, single):
    """A program that needs 728 contexts, sixteen for each row, one to nine of them, and one for each single one."""
    calls = tuple(("call", "branch", deed) for deed in DEEDS[:5]) + (("call", "more"),)
    calls += tuple(("call", "one", deed) for deed in DEEDS[:single])
    more = Procedure("more", (), ("or",) + handing(DEEDS[5], DEEDS[:rows]))
    return Program(2, Procedure("main", (), ("or",) + calls), BRANCH, more, PAIR, THREE, ONE)


def lesser_crowd(many, late):
    """A program that would need 145 contexts for each of many, one to six, if main had no pairs.

    It comes to all pairs by so many calls, one to three.
    """
    calls = tuple(("call", "branch", ("or", ("run", "x"), deed)) for deed in DEEDS[:many])
    names = ["late", "later", "latest"][:late]
    bodies = [("call", name) for name in names[1:]] + [ALL]
    begin = Procedure("begin", (("x", "block"),), ("seq", ("or", DONE) + calls, ("call", "late")))
    lates = [Procedure(name, (), body) for name, body in zip(names, bodies)]
    return Program(2, Procedure("main", (), ("call", "begin", ("call", "main"))), begin, BRANCH, PAIR, THREE, *lates)


def flood(*blocks):
    """A program that needs sixteen times sixteen times sixteen contexts, and more if a word is watched."""
    turn = Procedure("turn", (("x", "block"), ("y", "block"), ("z", "block")), (
        "seq", ("run", "y"), ("call", "use", ("with", "turn", ("run", "z"), ("run", "x")))))
    use = Procedure("use", (("w", "wrap"),), ("wrap", ("own", "w"), DONE))
    return Program(2, Procedure("main", (), ("call", "turn") + blocks), turn, use)


def watched_crowd(single):
    """A program that needs 799 contexts and one to four single ones, if a word is watched that is not in it.

    There are twelve rows of 64, 27 contexts of three procedures, and four others.
    """
    either = [("or", DEEDS[3 + end], DEEDS[6 + end]) for end in range(3)] + [ALL]
    wraps = [("with", "duo", block) for block in DEEDS + either[:3]]
    calls = [("call", "three") + tuple(wraps[place:place + 3]) for place in range(0, 12, 3)]
    ones, twos, threes = [[("call", name, deed) for deed in DEEDS] for name in ("one", "uno", "eins")]
    singles = [("call", "one", block) for block in either[:single]]
    bodies = {"main": calls[:2] + [("call", "more")] + ones, "more": calls[2:] + [("call", "third")] + singles,
              "third": twos + threes}
    procedures = [Procedure(name, (), ("or",) + tuple(terms)) for name, terms in bodies.items()]
    duo = Procedure("duo", (("x", "block"), ("y", "block")), DONE)
    others = [Procedure(name, (("x", "block"),), DONE) for name in ("uno", "eins")]
    return Program(2, *procedures, THREE, duo, ONE, *others)
