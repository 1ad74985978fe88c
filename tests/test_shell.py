"""Stage 16: `Shell`, [16.1]."""

import time
import unittest

from blockshanded.ask.ends import ends
from blockshanded.ask.idle import is_idle
from blockshanded.ask.words import can_do
from blockshanded.base.procedures import Procedure
from blockshanded.base.programs import Program
from blockshanded.errors import (
    InvalidCommand, InvalidNumber, InvalidOperation, InvalidProgram, ParseError, TooMany, UnknownName)
from blockshanded.mean.books import book_of
from blockshanded.same.editions import exchanged, without_term
from blockshanded.same.tables import are_alike
from blockshanded.text import shell as shell_module
from blockshanded.text.shell import MAX_PROGRAMS, Shell
from blockshanded.text.texts import write_program
from tests.crowds import crowd, flood
from tests.long_runs import DONE, main
from tests.samples import FLIP, FLIPS, LOCKS, LOOP, SKIP, PromiseTest, anything, picture
from tests.test_callers import BOTH

BIG = "9" * 40
LOCKS_TEXT = write_program(LOCKS)
WRONG_TEXTS = [("", 0), ("program", 0), ("program 02", 0), ("programs 2", 0), ("program 2 ", 0), ("\nprogram 2", 0),
               ("program 2\n", 1), ("program 2\nproc main : (seq", 1), ("program 2\nproc main : (seq)\nproc", 2),
               ("program 2\nproc main : (seq)\nproc p x block: run x", 2), (" program 2\nproc", 0)]
NO_PROGRAMS = ["program 2", "program 4\nproc main : (seq)", "program 2\nproc main : (call nowhere)", "program 2\nproc main : do a 5 5",
               "program 2\nproc p : (seq)", "program 2\nproc main : (do a 0 1)", "program 2\nproc main : (seq)\nproc main : (seq)"]


def filled(*programs):
    """A shell with programs under the names a, b, c .."""
    shell = Shell()
    for name, program in zip("abcdefgh", programs):
        shell(f"new {name}\n{write_program(program)}")
    return shell


def state_of(shell):
    return picture((list(shell.programs.items()), shell.names, shell.script, len(shell), str(shell)))


class ShellTest(PromiseTest):
    def assert_fails(self, shell, error, command, **attributes):
        """The command raises this error, in both ways, and changes nothing."""
        before = state_of(shell)
        self.assert_raises(error, shell.run, command, **attributes)
        self.assert_raises(error, shell, command, **attributes)
        self.assertEqual(state_of(shell), before)


class BasicsTest(ShellTest):
    def test_a_new_shell(self):
        shell = Shell()
        self.assert_same((shell.names, shell.programs, shell.script, len(shell), str(shell)), ((), {}, (), 0, "shell of 0 programs"))
        self.assert_same(MAX_PROGRAMS, 8)
        self.assert_equal_things(shell, Shell())

    def test_programs(self):
        shell = Shell()
        self.assert_same(shell("new b\n" + LOCKS_TEXT), str(LOCKS))
        self.assert_same(shell.run("new a\n" + write_program(FLIPS)), str(FLIPS))
        self.assert_same(shell.names, ("a", "b"))
        self.assert_same(shell.programs, {"a": FLIPS, "b": LOCKS})
        self.assertEqual(list(shell.programs), ["a", "b"])
        self.assert_same((len(shell), str(shell)), (2, "shell of 2 programs"))
        shell.programs.clear()
        self.assert_same(len(shell), 2)
        for value in anything():
            self.assertIs(value in shell, value == "a")
        self.assertIs("b" in shell, True)

    def test_equal_shells(self):
        one, other = filled(FLIPS, LOCKS), Shell()
        other("new b\n" + LOCKS_TEXT)
        self.assertIs(one == other, False)
        other("new a\n" + write_program(FLIPS))
        self.assert_equal_things(one, other)
        self.assertNotEqual(one.script, other.script)
        other("drop a")
        other("copy b a")
        self.assertIs(one != other, True)
        self.assert_equals_no_other(one, anything() + [one.programs])

    def test_it_cannot_be_iterated_over(self):
        self.assert_not_iterable(filled(FLIPS))

    def test_where_it_is_defined(self):
        self.assertEqual(Shell.__module__, "blockshanded.text.shell")
        self.assertIs(shell_module.Shell, Shell)
        for name in ("run", "replayed", "names", "programs", "script", "__call__", "__contains__", "__len__", "__eq__", "__str__"):
            self.assertIn(name, vars(Shell))


class CommandsTest(ShellTest):
    def test_new(self):
        shell = Shell()
        for text, line in WRONG_TEXTS:
            self.assert_fails(shell, ParseError, "new a\n" + text, line=line)
        for text in NO_PROGRAMS:
            self.assert_fails(shell, InvalidProgram, "new a\n" + text)
        shell("new a\n" + LOCKS_TEXT)
        self.assert_fails(shell, InvalidOperation, "new a\n" + LOCKS_TEXT)
        self.assert_fails(shell, InvalidOperation, "new a\nnothing")
        self.assert_fails(shell, ParseError, "new b\nnothing", line=0)

    def test_new_without_a_line_below(self):
        for command in ("new a", "new", "new ", "new a ", "new a b", "new\n" + LOCKS_TEXT, "new a b\n" + LOCKS_TEXT,
                        "new  a\n" + LOCKS_TEXT, "new a \n" + LOCKS_TEXT, " new a\n" + LOCKS_TEXT, "new A\n" + LOCKS_TEXT,
                        "new abcdefghi\n" + LOCKS_TEXT, "New a\n" + LOCKS_TEXT, "new 1\n" + LOCKS_TEXT, "\nnew a\n" + LOCKS_TEXT):
            self.assert_fails(Shell(), InvalidCommand, command)

    def test_copy_and_drop(self):
        shell = filled(LOCKS)
        self.assertIsNone(shell("copy a b"))
        self.assert_same(shell.programs, {"a": LOCKS, "b": LOCKS})
        self.assert_fails(shell, InvalidOperation, "copy a b")
        self.assert_fails(shell, InvalidOperation, "copy a a")
        self.assert_fails(shell, UnknownName, "copy c a", name="c")
        self.assert_fails(shell, UnknownName, "copy c d", name="c")
        self.assert_fails(shell, UnknownName, "copy c c", name="c")
        self.assertIsNone(shell("drop a"))
        self.assert_same(shell.programs, {"b": LOCKS})
        self.assert_fails(shell, UnknownName, "drop a", name="a")
        shell("cut b deep 0 1")
        shell("copy b a")
        self.assert_same(shell.programs["a"], without_term(LOCKS, "deep", 0, 1))

    def test_cut_and_turn(self):
        shell = filled(LOCKS, BOTH)
        self.assert_same(shell("cut a deep 0 1"), write_program(without_term(LOCKS, "deep", 0, 1)))
        self.assert_same(shell.programs["a"], without_term(LOCKS, "deep", 0, 1))
        self.assert_fails(shell, InvalidOperation, "cut a deep 0 0")
        self.assert_fails(shell, InvalidNumber, "cut a deep 1 0", value=1)
        self.assert_fails(shell, InvalidNumber, "cut a deep 0 1", value=1)
        self.assert_fails(shell, InvalidNumber, f"cut a deep {BIG} 1", value=int(BIG))
        self.assert_fails(shell, UnknownName, "cut a nowhere 0 0", name="nowhere")
        self.assert_fails(shell, UnknownName, "cut c nowhere 0 0", name="c")
        self.assert_same(shell("turn b twice once"), write_program(exchanged(BOTH, "twice", "once")))
        self.assert_same(shell.programs["b"], exchanged(BOTH, "twice", "once"))
        self.assert_fails(shell, UnknownName, "turn b once nowhere", name="nowhere")
        self.assert_fails(shell, UnknownName, "turn b here nowhere", name="here")
        self.assert_fails(shell, UnknownName, "turn c here nowhere", name="c")
        self.assert_fails(shell, InvalidOperation, "turn b once main")

    def test_questions(self):
        programs = {"a": FLIPS, "b": LOCKS, "c": LOOP, "d": SKIP, "e": BOTH}
        shell = filled(*programs.values())
        script = shell.script
        for name, program in programs.items():
            self.assert_same(shell(f"text {name}"), write_program(program))
            self.assert_same(shell(f"size {name}"), len(book_of(program)))
            for mode in range(program.modes):
                self.assert_same(shell(f"ends {name} {mode}"), ends(program, mode))
                for word in program.words + ("other",):
                    self.assert_same(shell(f"does {name} {mode} {word}"), can_do(program, mode, word))
            for procedure in program.procedures:
                for x, kind in procedure.parameters:
                    if kind == "block":
                        self.assert_same(shell(f"idle {name} {procedure.named} {x}"), is_idle(program, procedure.named, x))
                if "wrap" not in procedure.kinds:
                    self.assert_same(shell(f"alike {name} {procedure.named} {procedure.named}"), True)
        self.assert_same(shell("alike e once twice"), are_alike(BOTH, "once", "twice"))
        self.assert_same(shell.script, script)

    def test_errors_of_questions(self):
        shell = filled(LOCKS, crowd(9, 9))
        self.assert_fails(shell, InvalidNumber, "ends a 2", value=2)
        self.assert_fails(shell, InvalidNumber, f"ends a {BIG}", value=int(BIG))
        self.assert_fails(shell, InvalidNumber, "does a 2 work", value=2)
        self.assert_fails(shell, UnknownName, "idle a nowhere b", name="nowhere")
        self.assert_fails(shell, InvalidOperation, "idle a again w")
        self.assert_fails(shell, InvalidOperation, "idle a again x")
        self.assert_fails(shell, UnknownName, "alike a locked nowhere", name="nowhere")
        self.assert_fails(shell, InvalidOperation, "alike a locked deep")
        self.assert_fails(shell, InvalidOperation, "alike a locked main")
        for command in ("ends b 0", "does b 0 go", "size b", "idle b branch x"):
            self.assert_fails(shell, TooMany, command, limit=800)
        self.assert_fails(shell, InvalidNumber, "ends b 2", value=2)
        for command in ("text c", "ends c 5", "does c 5 work", "idle c nowhere x", "alike c here there", "size c", "drop c"):
            self.assert_fails(shell, UnknownName, command, name="c")

    def test_what_is_no_command(self):
        shell = filled(LOCKS)
        right = ["copy a b", "drop a", "cut a deep 0 1", "turn a deep deep", "text a", "ends a 0", "does a 0 work",
                 "idle a again b", "alike a locked locked", "size a"]
        for command in right:
            words = command.split(" ")
            wrong = [command + " ", " " + command, command.replace(" ", "  ", 1), command.replace(" ", "\t", 1), command + "\n",
                     command + "\n\n", "\n" + command, command + " a", command + " 0", command.upper(), words[0],
                     " ".join(words[:-1]), " ".join(words + words[-1:]), " ".join(words[::-1]), command.replace(" a", " A", 1),
                     command.replace(" a", " abcdefghi", 1), command.replace(" a", " 0", 1), command.replace(" a", " ", 1),
                     words[0] + "s " + " ".join(words[1:]), command + "\n" + LOCKS_TEXT, command.replace(" ", "", 1)]
            for text in wrong:
                if text != command:
                    self.assert_fails(shell, InvalidCommand, text)
        for command in ("cut a deep 00 1", "cut a deep 0 01", "cut a deep -0 1", "cut a deep +0 1", "cut a deep 0 one", "cut a 0 deep 1",
                        "cut a deep 0.0 1", f"cut a deep {BIG}9 1", "ends a 00", "ends a -1", "ends a +1", "ends a 1.", f"ends a 1{BIG}",
                        "ends a work", "does a work 0", "does a 00 work", "does a 0 Work", "does a 0 0", "does a 0 abcdefghi", "ends a 1_0",
                        "idle a again 0", "idle a 0 b", "alike a 0 locked", "turn a locked 0", "lasts a 0", "undo", "", " ", "\n", "a"):
            self.assert_fails(shell, InvalidCommand, command)
        for value in anything():
            self.assert_fails(shell, InvalidCommand, value)

    def test_unknown_names_come_behind_the_form(self):
        shell = Shell()
        self.assert_fails(shell, InvalidCommand, "ends a -1")
        self.assert_fails(shell, UnknownName, "ends a 5", name="a")
        self.assert_fails(shell, UnknownName, "copy a b", name="a")


class EightTest(ShellTest):
    def eight(self):
        return filled(FLIPS, LOCKS, LOOP, SKIP, BOTH, main(DONE), main(FLIP), FLIPS)

    def test_a_ninth_program(self):
        shell = self.eight()
        self.assert_same((len(shell), str(shell)), (8, "shell of 8 programs"))
        self.assert_fails(shell, TooMany, "new i\n" + LOCKS_TEXT, limit=8)
        self.assert_fails(shell, TooMany, "copy a i", limit=8)

    def test_it_is_refused_last(self):
        shell = self.eight()
        for text, line in WRONG_TEXTS:
            self.assert_fails(shell, ParseError, "new i\n" + text, line=line)
        for text in NO_PROGRAMS:
            self.assert_fails(shell, InvalidProgram, "new i\n" + text)
        self.assert_fails(shell, InvalidOperation, "new a\n" + LOCKS_TEXT)
        self.assert_fails(shell, InvalidOperation, "copy a b")
        self.assert_fails(shell, UnknownName, "copy i j", name="i")
        self.assert_fails(shell, InvalidCommand, "copy a i ")
        self.assert_fails(shell, InvalidCommand, "new i")

    def test_other_commands_go_on(self):
        shell = self.eight()
        shell("cut b deep 0 1")
        shell("turn e twice once")
        shell("drop c")
        shell("copy a i")
        self.assert_same(shell.names, ("a", "b", "d", "e", "f", "g", "h", "i"))


class ScriptTest(ShellTest):
    def test_what_is_kept(self):
        shell = Shell()
        commands = ["new a\n" + LOCKS_TEXT, "ends a 0", "copy a b", "size b", "cut b deep 0 1", "text b", "turn b locked locked",
                    "does a 0 work", "drop a", "alike b locked locked"]
        for command in commands:
            shell(command)
        kept = tuple(commands[place] for place in (0, 2, 4, 6, 8))
        self.assert_same(shell.script, kept)
        for command in ("drop a", "copy a c", "cut b deep 0 0", "new b\n" + LOCKS_TEXT, "new c\nnothing", "nothing", "turn b locked deep"):
            with self.assertRaises((UnknownName, InvalidOperation, ParseError, InvalidCommand)):
                shell(command)
        self.assert_same(shell.script, kept)

    def test_replayed(self):
        shell = filled(LOCKS, BOTH)
        for command in ("copy a c", "cut c deep 0 1", "turn b twice once", "drop a"):
            shell(command)
        other = Shell.replayed(shell.script)
        self.assertIs(type(other), Shell)
        self.assert_equal_things(other, shell)
        self.assert_same(other.script, shell.script)
        other("drop b")
        self.assert_same(len(shell), 2)
        self.assert_equal_things(Shell.replayed(()), Shell())

    def test_other_commands_in_a_script(self):
        script = ("new a\n" + LOCKS_TEXT, "ends a 0", "size a", "copy a b", "text b")
        shell = Shell.replayed(script)
        self.assert_same(shell.script, (script[0], script[3]))
        self.assert_same(shell.names, ("a", "b"))

    def test_errors(self):
        for value in anything():
            if not isinstance(value, tuple):
                self.assert_raises(InvalidCommand, Shell.replayed, value)
            if value != ():
                self.assert_raises(InvalidCommand, Shell.replayed, (value,))
        for script, error in ((["new a\n" + LOCKS_TEXT], InvalidCommand), (("new a\n" + LOCKS_TEXT, None), InvalidCommand),
                              (("drop a",), UnknownName), (("new a\nnothing",), ParseError), (("new a",), InvalidCommand),
                              (("new a\n" + LOCKS_TEXT, "new a\n" + LOCKS_TEXT), InvalidOperation),
                              (("new a\n" + LOCKS_TEXT, "ends a 2"), InvalidNumber), (("new a\nprogram 2",), InvalidProgram),
                              (("new a\n" + LOCKS_TEXT, ("drop a",)), InvalidCommand)):
            self.assert_raises(error, Shell.replayed, script)
        many = tuple(f"new {name}\n{LOCKS_TEXT}" for name in "abcdefghi")
        self.assert_raises(TooMany, Shell.replayed, many, limit=8)
        self.assertEqual(len(Shell.replayed(many[:8])), 8)
        self.assert_raises(TooMany, Shell.replayed, ("new a\n" + write_program(flood(DONE, DONE, DONE)), "size a"), limit=800)

    def test_twice_the_same(self):
        script = ("new a\n" + LOCKS_TEXT, "copy a b", "cut b deep 0 1")
        self.assert_equal_things(Shell.replayed(script), Shell.replayed(script))


class TimeTest(PromiseTest):
    def test_answers_are_quick(self):
        shell = Shell()
        begin = time.perf_counter()
        for _ in range(20):
            shell("new a\n" + LOCKS_TEXT)
            for command in ("size a", "ends a 0", "does a 0 work", "idle a again b", "cut a deep 0 1", "drop a"):
                shell(command)
        self.assertLess(time.perf_counter() - begin, 5)


class ExampleTest(PromiseTest):
    def test_example(self):
        shell = Shell()
        self.assert_same(
            [shell("new a\n" + write_program(LOCKS)), shell("ends a 0"), shell("does a 1 work"), shell("size a"),
             shell("idle a again b"), shell("copy a b"), shell("cut b deep 0 1").split("\n")[-1], shell("size b")],
            ["program of 2 modes, 4 procedures", (0,), False, 51, True, None,
             "proc deep w wrap : (or (wrap (own w) (do work 0 1)))", 18])

    def test_programs_of_one_and_three_modes(self):
        shell = Shell()
        for name, modes in (("a", 1), ("b", 3)):
            program = Program(modes, Procedure("main", (), DONE))
            shell(f"new {name}\n{write_program(program)}")
            self.assert_same(shell(f"ends {name} {modes - 1}"), (modes - 1,))


if __name__ == "__main__":
    unittest.main()
