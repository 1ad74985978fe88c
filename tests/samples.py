"""The programs of the document, values that can be wrong, and a test case that looks at errors."""

import unittest

from blockshanded.base.procedures import Procedure
from blockshanded.base.programs import Program
from blockshanded.errors import HandError, TooMany
from blockshanded.house.project import Project
from blockshanded.last.endless import Beginning
from blockshanded.mean.spaces import Space
from blockshanded.runs.runs import Run
from blockshanded.text.shell import Shell

FLIP = ("do", "flip", (1, 0))
TWICE = Procedure("twice", (("b", "block"),), ("seq", ("run", "b"), ("run", "b")))
FLIPS = Program(2, Procedure("main", (), ("call", "twice", ("or", FLIP, ("seq",)))), TWICE)
LOCKED = Procedure("locked", (("b", "block"),), (
    "seq", ("do", "lock", (1, None)), ("run", "b"), ("do", "unlock", (None, 0))))
AGAIN = Procedure("again", (("w", "wrap"), ("b", "block")), (
    "wrap", ("own", "w"), ("wrap", ("own", "w"), ("run", "b"))))
DEEP = Procedure("deep", (("w", "wrap"),), (
    "or", ("wrap", ("own", "w"), ("do", "work", (0, 1))), ("call", "deep", ("with", "again", ("own", "w")))))
LOCKS = Program(2, Procedure("main", (), ("call", "deep", ("with", "locked"))), LOCKED, AGAIN, DEEP)
LOOP = Program(1, Procedure("main", (), ("seq", ("do", "tick", (0,)), ("call", "main"))))
SKIP = Program(1, Procedure("main", (), ("call", "skip", ("do", "tick", (0,)))),
               Procedure("skip", (("b", "block"),), ("seq",)), Procedure("lost", (), ("call", "main")))

GREATEST = 10 ** 40 - 1


def nested(around, inmost, deep):
    """A value with so many layers around it."""
    for _ in range(deep):
        inmost = around(inmost)
    return inmost


def integers():
    return [0, 1, 2, 3, 4, 8, 9, -1, -2, 10 ** 39, GREATEST, -GREATEST]


def strings():
    """Strings that are no names."""
    return ["", "A", "Main", "a b", " a", "a ", "a\n", "\n", "a\nb", "a1", "7", "a_b", "a-b", "`", "{", "@", "[",
            "abcdefghi", "".join(chr(code) for code in range(32, 127))]


def containers():
    """Tuples, lists and dicts, up to twelve deep, none of them a term, a wrap, parameters or procedures."""
    return [
        ("a",), (0,), (None,), ((),), ("", ""), ("block", "b"), ("b", "block"), (("b",),), (True, False),
        [], ["a"], ["seq"], [("b", "block")], ["do", "go", [0]], [["b", "block"]], [TWICE],
        {}, {"a": 1}, {"seq": ()}, {0: 0}, {"b": "block"}, {("b", "block"): None}, {"main": TWICE},
        nested(lambda inner: (inner,), 0, 12),
        nested(lambda inner: [inner], "a", 12),
        nested(lambda inner: {"a": inner}, None, 12),
        nested(lambda inner: ("seq", [inner]), (), 6),
        nested(lambda inner: ("seq", inner), ("seq",), 11),
        nested(lambda inner: ("seq", inner, inner), ("seq",), 11),
        nested(lambda inner: ("wrap", ("with", "p"), inner), ("seq",), 11),
    ]


def objects():
    """Objects of the package."""
    return [TWICE, AGAIN, FLIPS, LOCKS, Run(FLIPS, 0), Space(2), HandError("wrong"), TooMany(8), Project(LOCKS), Shell(),
            Beginning(LOOP, 0, 3)]


def no_names():
    """Values of every kind of [0.4], none of which is a name."""
    return integers() + [True, False, None, ()] + strings() + containers() + objects()


def anything():
    """Values of every kind of [0.4], names among them."""
    return no_names() + ["a", "main", "block", "wrap", "seq", "abcdefgh"]


def picture(value):
    """All that the value shows, in a form in which 1 and True differ."""
    if isinstance(value, (tuple, list)):
        return (type(value).__name__, [picture(item) for item in value])
    if isinstance(value, dict):
        return ("dict", [(picture(key), picture(value[key])) for key in value])
    if isinstance(value, Procedure):
        return ("Procedure", [picture(item) for item in (
            value.named, value.parameters, value.body, value.kinds, value.words, value.uses, len(value), str(value))])
    if isinstance(value, Program):
        return ("Program", [picture(item) for item in (
            value.modes, value.procedures, value.names, value.words, value.has_wraps, len(value), str(value))])
    if isinstance(value, Run):
        return ("Run", [picture(item) for item in (
            value.program, value.start, value.choices, value.until, value.state, value.mode, value.words, value.steps,
            value.options, len(value), str(value))])
    if isinstance(value, Space):
        return ("Space", [picture(item) for item in (
            value.modes, value.watched, value.ends, value.size, value.same, str(value))])
    if isinstance(value, BaseException):
        return (type(value).__name__, picture(list(vars(value).items())))
    return (type(value).__name__, value)


class PromiseTest(unittest.TestCase):
    """A test case that compares values with their kinds, and looks at errors."""

    def assert_same(self, found, wanted):
        """Both are equal, and of the same kinds throughout."""
        self.assertEqual(picture(found), picture(wanted))

    def assert_raises(self, error, call, *arguments, by_keyword=None, **attributes):
        """The call raises just this error with these attributes, and changes no argument."""
        before = picture(arguments)
        with self.assertRaises(error) as caught:
            call(*arguments, **(by_keyword or {}))
        self.assertIs(type(caught.exception), error)
        for name, wanted in attributes.items():
            self.assert_same(getattr(caught.exception, name), wanted)
        self.assertEqual(picture(arguments), before)

    def assert_not_iterable(self, thing):
        """The object cannot be iterated over in any way."""
        with self.assertRaises(TypeError):
            iter(thing)
        with self.assertRaises(TypeError):
            list(thing)
        with self.assertRaises(TypeError):
            for _ in thing:
                pass

    def assert_equals_no_other(self, thing, others):
        """`==` accepts every value, from both sides, and `!=` is its opposite."""
        for other in others:
            with self.subTest(other=other):
                self.assertIs(thing == other, False)
                self.assertIs(other == thing, False)
                self.assertIs(thing != other, True)
                self.assertIs(other != thing, True)

    def assert_equal_things(self, one, other):
        """Both are equal, by `==` and by `!=`."""
        self.assertIs(one == other, True)
        self.assertIs(other == one, True)
        self.assertIs(one != other, False)
