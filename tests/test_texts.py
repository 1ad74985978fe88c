"""Stage 5: `write_program` and `read_program`, [5.1] and [5.2]."""

import unittest

from blockshanded.base.procedures import Procedure
from blockshanded.base.programs import Program
from blockshanded.errors import InvalidProgram, ParseError
from blockshanded.text import texts
from blockshanded.text.texts import read_program, write_program
from tests.random_programs import random_program
from tests.samples import AGAIN, DEEP, FLIPS, LOCKED, LOCKS, LOOP, SKIP, TWICE, PromiseTest, anything, nested

LOCKS_TEXT = "\n".join([
    "program 2",
    "proc main : (call deep (with locked))",
    "proc locked b block : (seq (do lock 1 -) (run b) (do unlock - 0))",
    "proc again w wrap b block : (wrap (own w) (wrap (own w) (run b)))",
    "proc deep w wrap : (or (wrap (own w) (do work 0 1)) (call deep (with again (own w))))"])
# Each of these is a body of main, and the others are procedures that it can call.
BODIES = {
    "do go -": ("do", "go", (None,)),
    "do go 0": ("do", "go", (0,)),
    "(seq)": ("seq",),
    "(seq (seq) (do go 0))": ("seq", ("seq",), ("do", "go", (0,))),
    "(or (seq))": ("or", ("seq",)),
    "(or (or (do do -)) (call main))": ("or", ("or", ("do", "do", (None,))), ("call", "main")),
    "(call main)": ("call", "main"),
    "(call p (seq))": ("call", "p", ("seq",)),
    "(call p (call p (do p 0)))": ("call", "p", ("call", "p", ("do", "p", (0,)))),
    "(call q (with p) (seq))": ("call", "q", ("with", "p"), ("seq",)),
    "(wrap (with p) (seq))": ("wrap", ("with", "p"), ("seq",)),
    "(wrap (with q (with p)) (do go 0))": ("wrap", ("with", "q", ("with", "p")), ("do", "go", (0,))),
}
P = Procedure("p", (("b", "block"),), ("run", "b"))
Q = Procedure("q", (("w", "wrap"), ("b", "block")), ("wrap", ("own", "w"), ("run", "b")))
BEHIND = "\nproc p b block : run b\nproc q w wrap b block : (wrap (own w) (run b))"


class WriteTest(PromiseTest):
    def test_each_term(self):
        for text, body in BODIES.items():
            program = Program(1, Procedure("main", (), body), P, Q)
            self.assert_same(write_program(program), "program 1\nproc main : " + text + BEHIND)

    def test_tables(self):
        body = ("seq", ("do", "a", (0, 1, 2)), ("do", "b", (None, None, None)), ("do", "c", (2, None, 0)))
        self.assert_same(write_program(Program(3, Procedure("main", (), body))),
                         "program 3\nproc main : (seq (do a 0 1 2) (do b - - -) (do c 2 - 0))")
        self.assert_same(write_program(Program(2, Procedure("main", (), ("do", "go", (None, 1))))),
                         "program 2\nproc main : do go - 1")

    def test_procedures_in_their_order(self):
        self.assert_same(write_program(LOCKS), LOCKS_TEXT)
        turned = Program(2, DEEP, AGAIN, LOCKED, LOCKS["main"])
        self.assert_same(write_program(turned).split("\n")[1:], LOCKS_TEXT.split("\n")[1:][::-1])

    def test_three_parameters_with_the_names_of_kinds(self):
        wrap = Procedure("proc", (("block", "block"), ("wrap", "wrap"), ("run", "block")), ("run", "run"))
        self.assert_same(write_program(Program(1, wrap, Procedure("main", (), ("seq",)))),
                         "program 1\nproc proc block block wrap wrap run block : run run\nproc main : (seq)")

    def test_no_program(self):
        for value in anything():
            if value not in (FLIPS, LOCKS):
                self.assert_raises(InvalidProgram, write_program, value)


class ReadTest(PromiseTest):
    def check(self, text, program):
        with self.subTest(text=text):
            self.assert_same(read_program(text), program)
            self.assert_same(write_program(program), text)

    def check_line(self, text, line):
        """This line is the first one that has not its form."""
        with self.subTest(text=text):
            self.assert_raises(ParseError, read_program, text, line=line)

    def check_form(self, body, has_form):
        """The line of a procedure with this body has its form or not; it is no body of main in any case."""
        for parameters in ("", " b block", " b block w wrap"):
            text = f"program 1\nproc main{parameters} : {body}\nproc q : (seq"
            self.check_line(text, 2 if has_form else 1)


class ThereAndBackTest(ReadTest):
    def test_programs_of_the_document(self):
        for program in (FLIPS, LOCKS, LOOP, SKIP, FLIPS.with_procedure(AGAIN)):
            self.check(write_program(program), program)

    def test_each_term(self):
        for text, body in BODIES.items():
            self.check("program 1\nproc main : " + text + BEHIND, Program(1, Procedure("main", (), body), P, Q))

    def test_random_programs(self):
        for seed in range(200):
            program = random_program(seed)
            self.check(write_program(program), program)

    def test_eight_procedures(self):
        others = [Procedure(letter, TWICE.parameters, TWICE.body) for letter in "abcdefg"]
        program = Program(3, *others[:3], Procedure("main", (), ("seq",)), *others[3:])
        self.check(write_program(program), program)

    def test_the_deepest_and_longest_bodies(self):
        deep = nested(lambda inner: ("seq", inner), ("do", "go", (0,)), 5)
        long = ("or",) + (("do", "abcdefgh", (None,)),) * 39
        program = Program(1, Procedure("main", (), deep), Procedure("long", (), long))
        self.check(write_program(program), program)


class FirstLineTest(ReadTest):
    def test_right(self):
        for modes in (1, 2, 3):
            self.check(f"program {modes}\nproc main : (seq)", Program(modes, Procedure("main", (), ("seq",))))

    def test_wrong_forms(self):
        for line in (
                "", " ", "program", "program ", " program 1", "program  1", "program 1 ", "program 1 1", "Program 1",
                "programs 1", "program one", "program -", "program -1", "program +1", "program 01", "program 00",
                "program 1.0", "program (1)", "(program 1)", "program 1:", "program :", "proc main : (seq)", "1",
                "program\t1", "program _1", "program 1_0", "program " + "1" * 41, "program " + "0" * 40):
            self.check_line(line, 0)
            self.check_line(line + "\nproc main : (seq)", 0)
            self.check_line(line + "\nno line", 0)
            self.check_line("\n" + line, 0)

    def test_no_number_of_modes(self):
        for number in ("0", "4", "10", "9" * 40):
            self.assert_raises(InvalidProgram, read_program, f"program {number}\nproc main : (seq)")
            self.check_line(f"program {number}\nproc main : seq", 1)

    def test_nothing_but_the_first_line(self):
        self.assert_raises(InvalidProgram, read_program, "program 1")
        self.check_line("program 1\n", 1)


class ProcedureLineTest(ReadTest):
    def check_head(self, head, has_form):
        self.check_line(f"program 1\n{head} (seq)\nno line", 2 if has_form else 1)

    def test_heads(self):
        for head in ("proc main :", "proc x y block :", "proc x y wrap :", "proc x block block wrap wrap :",
                     "proc proc proc block :", "proc x a block b block c block d block e wrap :", "proc x y wrap y wrap :",
                     "proc " + "a" * 60 + " :", "proc x " + "a" * 60 + " block :"):
            self.check_head(head, True)
        for head in ("", "proc", "proc :", "proc main", "main :", "proc main:", "proc main: ", "proc main  :", "proc : :",
                     "proc  main :", " proc main :", "proc main : :", "procs main :", "Proc main :", "proc Main :",
                     "proc main2 :", "proc ma-in :", "proc main b :", "proc main block :", "proc main b block c :",
                     "proc main b blocks :", "proc main b Block :", "proc main B block :", "proc main b1 block :",
                     "proc main b do :", "proc main - block :", "proc main b -  :", "proc (main) :", "(proc main :",
                     "proc main (b block) :", "proc main b (block) :", "proc main (:)", "proc main b block:",
                     "proc main b block, c block :", "proc main b\nblock :", "program 1", "proc 1 :"):
            self.check_head(head, False)

    def test_forms_of_terms(self):
        for body in (
                "do go -", "do go 0", "do go 0 - 17 - 5", "(do go -)", "run b", "(run b)", "run abcdefghijk", "(seq)",
                "(or)", "(seq (seq) (or) (run b) (do go 0))", "(or (do go - - - -))", "(call p)", "(call abcdefghijkl)",
                "(call p (own w) (seq) (with q) (run b))", "(wrap (own w) (run b))", "(wrap (with p) (seq))",
                "(wrap (with p (own w) (with q (seq)) (or)) (do go 1))", "(seq (run seq) (do or 0) (call call))",
                "do go " + "9" * 40, "do go " + " ".join(["-"] * 50), "do do 0", "run run", "run do", "do run 0",
                "(call with)", "(wrap (own own) (run wrap))", "(seq" + " (seq)" * 60 + ")"):
            self.check_form(body, True)

    def test_what_has_not_the_form_of_a_term(self):
        for body in (
                "", " ", "do", "do go", "do go ", "do 0", "do Go 0", "do go go", "do go (seq)", "do go 0 (seq)", "do go :",
                "do go 01", "do go 00", "do go -0", "do go -1", "do go +1", "do go --", "do go None", "do go 1.5",
                "do go " + "1" * 41, "do go " + "0" * 41, "do go - " + "1" * 41, "run", "run b b", "run 1", "run (b)",
                "run B", "run -", "run (seq)", "seq", "or", "seq (seq)", "call p", "own w", "with p", "wrap (own w) (seq)",
                "(own w)", "(with p)", "b", "(b)", "()", "(())", "(seq ())", "((seq))", "(seq) (seq)", "(seq)(seq)",
                "(seq (own w))", "(or (with p))", "(seq do go 0)", "(seq run b)", "(seq (seq) do go 0)", "(seq b)",
                "(call)", "(call (seq))", "(call p b)", "(call p run b)", "(call p (b))", "(call 1)", "(call P)",
                "(call p q)", "(wrap)", "(wrap (own w))", "(wrap (seq) (own w))", "(wrap (seq) (seq))",
                "(wrap (own w) (own w))", "(wrap (own w) (seq) (seq))", "(wrap own w (seq))", "(wrap (own w) do go 0)",
                "(wrap (own) (seq))", "(wrap (own w w) (seq))", "(wrap (own (seq)) (seq))", "(wrap (own 1) (seq))",
                "(wrap (with) (seq))", "(wrap (with (seq)) (seq))", "(wrap (with p b) (seq))", "(wrap w (seq))",
                "(do)", "(do go)", "(do go (seq))", "(run)", "(run b b)", "(run (seq))", "(loop)", "(Seq)", "(seq: )"):
            self.check_form(body, False)

    def test_blanks(self):
        for body in (
                "(seq (run b)  (run b))", "( seq)", "(seq )", "(seq ( run b))", "(seq (run b ))", "(seq (run  b))",
                "(seq(run b))", "(seq (run b)(run b))", " (seq)", "(seq) ", "do  go 0", "do go  0", "do go 0 ", " do go 0",
                "run  b", "run b ", "(call  p)", "(call p )", "(call p(seq))", "(wrap  (own w) (seq))",
                "(wrap (own w)  (seq))", "(wrap (own w)(seq))", "(seq\t(run b))", "(seq (run b) )", "(seq (run b) ) "):
            self.check_form(body, False)

    def test_brackets(self):
        for body in (
                "(seq", "seq)", "(seq))", "(seq (run b)", "(seq (run b)))", "(seq (run b)) )", "((seq)", "(seq) )", "( (seq)",
                "(seq (seq (seq))", "(seq (seq (seq))))", ")seq(", ")", "(", "(seq)(", "do go 0)", "(do go 0", "run b)",
                "(seq (run b) (run b)", "(call p (with q)", "[seq]", "{seq}", "(seq [run b])"):
            self.check_form(body, False)

    def test_brackets_twelve_deep(self):
        for around, inmost in (("(seq {})", "(seq)"), ("(or (seq) {})", "(do go 0)"), ("(call p {})", "(run b)"),
                               ("(wrap (own w) {})", "(call p)"), ("(call p (with q {}))", "(own w)")):
            step = 2 if "with" in around else 1
            for deep in (5, 10, 11, 12, 13, 20):
                many, text = deep - 1, inmost
                while many >= step:
                    text, many = around.format(text), many - step
                if many == 0:
                    self.check_form(text, deep <= 12)
        self.check_form("(seq) " * 13, False)
        self.check_form("(seq" + " (seq)" * 13 + ")", True)

    def test_twelve_deep_is_no_program(self):
        text = nested(lambda inner: f"(seq {inner})", "(seq)", 11)
        self.assert_raises(InvalidProgram, read_program, "program 1\nproc main : " + text)
        self.check_line(f"program 1\nproc main : (seq {text})", 1)


class NoProgramTest(ReadTest):
    def check_no_program(self, *lines, modes=1):
        text = "\n".join((f"program {modes}",) + lines)
        with self.subTest(text=text):
            self.assert_raises(InvalidProgram, read_program, text)
        # A wrong line comes first, wherever it stands.
        self.check_line(text + "\nno line", len(lines) + 1)

    def test_brackets_around_what_is_the_whole_body(self):
        self.check_no_program("proc main : (do go 0)")
        self.check_no_program("proc main : (do go -)")
        self.check_no_program("proc main : (seq)", "proc p b block : (run b)")

    def test_no_main(self):
        self.check_no_program("proc mains : (seq)")
        self.check_no_program("proc main b block : (seq)")
        self.check_no_program("proc p b block : run b")

    def test_the_same_name_twice(self):
        self.check_no_program("proc main : (seq)", "proc main : (seq)")
        self.check_no_program("proc main : (seq)", "proc p b block b block : run b")

    def test_nine_procedures(self):
        lines = [f"proc {letter} : (seq)" for letter in "abcdefg"] + ["proc main : (seq)"]
        self.assertEqual(len(read_program("\n".join(["program 1"] + lines))), 8)
        self.check_no_program(*lines, "proc h : (seq)")

    def test_names_that_are_too_long(self):
        self.check_no_program("proc main : (seq)", "proc abcdefghi : (seq)")
        self.check_no_program("proc main : do abcdefghi 0")
        self.check_no_program("proc main : (seq)", "proc p abcdefghi block : (seq)")

    def test_wrong_tables(self):
        self.check_no_program("proc main : do go 1")
        self.check_no_program("proc main : do go 0 0")
        self.check_no_program("proc main : do go 0", modes=2)
        self.check_no_program("proc main : do go 0 2", modes=2)
        self.check_no_program("proc main : do go " + "9" * 40)

    def test_wrong_terms(self):
        for body in ("(or)", "run b", "(call p)", "(seq (run b))", "(wrap (own w) (seq))", "(call q (seq))",
                     "(call p (with p))", "(wrap (with main) (seq))", "(wrap (with r) (seq))", "(call main (seq))",
                     "(seq" + " (seq)" * 40 + ")", nested(lambda inner: f"(seq {inner})", "(seq)", 6)):
            self.check_no_program("proc main : " + body, "proc p b block : (seq)")

    def test_too_many_parameters_and_modes(self):
        self.check_no_program("proc main : (seq)", "proc p a block b block c block d block : (seq)")
        self.check_no_program("proc main : (seq)", "proc p w wrap : (seq)", modes=3)
        self.check_no_program("proc main : (seq)", modes=4)
        self.check_no_program("proc main : (seq)", modes=0)


class LinesTest(ReadTest):
    def test_lines_left_out(self):
        lines = LOCKS_TEXT.split("\n")
        self.check_line("\n".join(lines[1:]), 0)
        for left_out in range(1, 5):
            self.assert_raises(InvalidProgram, read_program, "\n".join(lines[:left_out] + lines[left_out + 1:]))

    def test_lines_doubled(self):
        lines = LOCKS_TEXT.split("\n")
        self.check_line("\n".join(lines[:1] + lines), 1)
        for line in range(1, 5):
            self.assert_raises(InvalidProgram, read_program, "\n".join(lines[:line + 1] + lines[line:]))
            self.assert_raises(InvalidProgram, read_program, "\n".join(lines + [lines[line]]))

    def test_empty_lines(self):
        lines = LOCKS_TEXT.split("\n")
        for place in range(6):
            self.check_line("\n".join(lines[:place] + [""] + lines[place:]), place)
            self.check_line("\n".join(lines[:place] + [" "] + lines[place:]), place)
        self.check_line("", 0)
        self.check_line("\n", 0)
        self.check_line(LOCKS_TEXT + "\n", 5)
        self.check_line(LOCKS_TEXT + "\n\n", 5)

    def test_blanks_at_the_ends_of_lines(self):
        lines = LOCKS_TEXT.split("\n")
        for place in range(5):
            for changed in (" " + lines[place], lines[place] + " ", lines[place] + "\t", lines[place] + ")"):
                self.check_line("\n".join(lines[:place] + [changed] + lines[place + 1:]), place)

    def test_the_first_of_several_lines(self):
        lines = LOCKS_TEXT.split("\n")
        for first in range(5):
            for second in range(first + 1, 5):
                changed = [line + " " if at in (first, second) else line for at, line in enumerate(lines)]
                self.check_line("\n".join(changed), first)

    def test_each_character_left_out_or_changed(self):
        for place in range(len(LOCKS_TEXT)):
            for other in ("", "a", " ", "(", ")", "0", "-", "\n", ":"):
                text = LOCKS_TEXT[:place] + other + LOCKS_TEXT[place + 1:]
                with self.subTest(text=text):
                    try:
                        self.assertEqual(write_program(read_program(text)), text)
                    except ParseError as error:
                        self.assertLess(error.line, len(text.split("\n")))
                    except InvalidProgram:
                        pass

    def test_what_is_no_string(self):
        for value in anything():
            if not isinstance(value, str):
                self.assert_raises(InvalidProgram, read_program, value)
        self.assert_raises(InvalidProgram, read_program, LOCKS_TEXT.split("\n"))

    def test_strings(self):
        for value in anything():
            if isinstance(value, str):
                self.check_line(value, 0)

    def test_where_all_is_defined(self):
        for name in ("write_program", "read_program"):
            self.assertEqual(getattr(texts, name).__module__, "blockshanded.text.texts")


class ExampleTest(PromiseTest):
    def test_first_example(self):
        self.assert_same(
            write_program(FLIPS).split("\n"),
            ["program 2", "proc main : (call twice (or (do flip 1 0) (seq)))",
             "proc twice b block : (seq (run b) (run b))"])

    def test_second_example(self):
        self.assert_same(
            [write_program(Program(1, Procedure("main", (), ("do", "go", (None,))))),
             read_program("program 1\nproc main : do go -")["main"].body],
            ["program 1\nproc main : do go -", ("do", "go", (None,))])


if __name__ == "__main__":
    unittest.main()
