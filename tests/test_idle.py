"""Stage 11: `is_idle`, `idle_parameters`, `is_idle_procedure`, `idle_procedures` and `bared`, [0.16] and [11.1]."""

import random
import time
import unittest

from blockshanded.ask import idle
from blockshanded.ask.ends import ends
from blockshanded.ask.idle import bared, idle_parameters, idle_procedures, is_idle, is_idle_procedure
from blockshanded.ask.words import can_do, words_done
from blockshanded.base.procedures import Procedure, is_term
from blockshanded.base.programs import Program
from blockshanded.errors import InvalidOperation, InvalidProgram, TooMany, UnknownName
from blockshanded.mean.books import book_of
from blockshanded.runs.runs import Run
from tests.crowds import crowd, flood, lesser_crowd, watched_crowd
from tests.long_runs import DONE, main, wrapped_work
from tests.random_programs import random_program
from tests.samples import AGAIN, FLIP, FLIPS, LOCKED, LOCKS, LOOP, SKIP, TWICE, PromiseTest, anything, nested, picture
from tests.slowly import Slow

BLOCK = (("b", "block"),)
WRAP = (("w", "wrap"),)
NEVER = ("do", "never", (None, None))
GO = ("do", "go", (0, 1))


def replaced(part, old, new):
    """A term or wrap with another term in the place of each of these."""
    if part == old:
        return new
    return tuple(replaced(inner, old, new) if isinstance(inner, tuple) else inner for inner in part)


def with_deed(program, name, parameter=None):
    """The program with a deed "new" ahead of each marked term, or None if bodies would be too great."""
    procedure = program[name]
    deed = ("do", "new", tuple(range(program.modes)))
    if parameter is None:
        body = ("seq", deed, procedure.body)
    else:
        body = replaced(procedure.body, ("run", parameter), ("seq", deed, ("run", parameter)))
    if not is_term(body, procedure.parameters):
        return None
    return program.with_procedure(Procedure(name, procedure.parameters, body))


class IdleTest(PromiseTest):
    def check(self, program, parameters, procedures):
        """Just these parameters and procedures are idle."""
        self.assert_same(idle_parameters(program), parameters)
        self.assert_same(idle_procedures(program), procedures)
        for procedure in program.procedures:
            self.assertIs(is_idle_procedure(program, procedure.named), procedure.named in procedures)
            for name, kind in procedure.parameters:
                if kind == "block":
                    self.assertIs(is_idle(program, procedure.named, name), (procedure.named, name) in parameters)

    def test_programs_of_the_document(self):
        self.check(FLIPS, (), ())
        self.check(LOCKS, (("again", "b"),), ())
        self.check(SKIP, (("skip", "b"),), ("lost",))
        self.check(LOOP, (), ())
        self.check(wrapped_work(), (), ())

    def test_a_parameter_that_does_not_occur(self):
        first = Procedure("first", (("x", "block"), ("y", "block")), ("run", "x"))
        self.check(main(("call", "first", GO, FLIP), first), (("first", "y"),), ())
        self.check(main(DONE, first), (("first", "x"), ("first", "y")), ("first",))

    def test_a_parameter_that_occurs_and_is_never_run(self):
        for body in (("seq", NEVER, ("run", "b")), ("call", "empty", ("run", "b")), ("wrap", ("with", "empty"), ("run", "b")),
                     ("seq", ("call", "p", ("run", "b")), ("run", "b"))):
            program = main(("call", "p", GO), Procedure("p", BLOCK, body), Procedure("empty", BLOCK, DONE))
            self.assertIs(is_idle(program, "p", "b"), True)
            self.assertIs(is_idle_procedure(program, "p"), False)

    def test_a_block_that_is_stuck_is_run(self):
        once = Procedure("once", BLOCK, ("run", "b"))
        self.check(main(("call", "once", NEVER), once), (), ())
        self.check(main(("call", "once", ("call", "main")), once), (), ())

    def test_any_mode_counts(self):
        once = Procedure("once", BLOCK, ("run", "b"))
        for table in ((None, 0), (0, None), (1, None)):
            self.check(main(("seq", ("do", "go", table), ("call", "once", NEVER)), once), (), ())
        self.check(main(("seq", ("do", "go", (1, None)), ("do", "on", (0, None)), ("call", "once", GO)), once),
                   (("once", "b"),), ("once",))

    def test_runs_that_never_end(self):
        late = Procedure("late", BLOCK, ("seq", ("call", "late", ("run", "b")), ("run", "b")))
        self.check(main(("call", "late", GO), late), (("late", "b"),), ())
        soon = Procedure("soon", BLOCK, ("seq", ("run", "b"), ("call", "soon", ("run", "b"))))
        self.check(main(("call", "soon", GO), soon), (), ())

    def test_procedures_behind_what_is_stuck(self):
        program = main(("seq", NEVER, ("call", "p")), Procedure("p", (), ("call", "q")), Procedure("q", (), ("call", "main")))
        self.check(program, (), ("p", "q"))

    def test_procedures_in_blocks_that_are_not_run(self):
        program = main(("call", "skip", ("call", "p")), Procedure("p", (), DONE), Procedure("skip", BLOCK, DONE))
        self.check(program, (("skip", "b"),), ("p",))

    def test_procedures_of_wraps_that_are_handed_and_not_used(self):
        user = Procedure("user", WRAP, ("seq", NEVER, ("wrap", ("own", "w"), GO)))
        program = main(("call", "user", ("with", "locked")), user, LOCKED)
        self.check(program, (("locked", "b"),), ("locked",))
        user = Procedure("user", WRAP, ("wrap", ("own", "w"), GO))
        self.check(main(("call", "user", ("with", "locked")), user, LOCKED), (), ())

    def test_what_is_handed_in_wraps(self):
        around = Procedure("around", (("x", "block"), ("y", "block"), ("z", "block")), ("seq", ("run", "x"), ("run", "z")))
        user = Procedure("user", WRAP, ("wrap", ("own", "w"), GO))
        program = main(("call", "user", ("with", "around", GO, FLIP)), around, user)
        self.check(program, (("around", "y"),), ())

    def test_wrap_parameters_are_not_told(self):
        user = Procedure("user", WRAP, DONE)
        self.check(main(("call", "user", ("with", "twice")), user, TWICE), (("twice", "b"),), ("twice",))

    def test_main_is_never_idle(self):
        for program in (FLIPS, LOOP, main(NEVER), main(DONE), main(("call", "main"))):
            self.assertIs(is_idle_procedure(program, "main"), False)

    def test_words_of_the_program_do_not_matter(self):
        for word in ("new", "mark", "go", "main", "a"):
            deed = ("do", word, (0, 1))
            self.check(main(("seq", deed, ("call", "skip", deed), deed), Procedure("skip", BLOCK, DONE)),
                       (("skip", "b"),), ())

    def test_bodies_that_are_as_deep_and_long_as_can_be(self):
        deep = nested(lambda inner: ("seq", inner), ("run", "b"), 5)
        long = ("seq",) + (("run", "b"),) * 39
        for body in (deep, long, nested(lambda inner: ("or", inner, DONE), ("run", "b"), 5)):
            program = main(("call", "p", GO), Procedure("p", BLOCK, body))
            self.assertIsNone(with_deed(program, "p", "b"))
            self.check(program, (), ())
            program = main(("seq", NEVER, ("call", "p", GO)), Procedure("p", BLOCK, body))
            self.check(program, (("p", "b"),), ("p",))

    def test_parameters_of_the_same_name_in_other_procedures(self):
        program = main(("seq", ("call", "twice", GO), ("call", "skip", GO)), TWICE, Procedure("skip", BLOCK, DONE))
        self.check(program, (("skip", "b"),), ())

    def test_pairs_and_names_ascend(self):
        kinds = (("z", "block"), ("a", "block"), ("m", "wrap"))
        program = main(DONE, *[Procedure(name, kinds, DONE) for name in ("q", "b", "z", "aa")])
        names = ("aa", "b", "q", "z")
        self.check(program, tuple((name, parameter) for name in names for parameter in ("a", "z")), names)

    def test_by_a_deed_ahead(self):
        checked = 0
        for seed in range(100):
            program = random_program(seed)
            try:
                self.check_by_deeds(program)
                checked += 1
            except TooMany:
                continue
        self.assertGreater(checked, 80)

    def check_by_deeds(self, program):
        """What is idle is what a deed tells."""
        parameters, procedures = idle_parameters(program), idle_procedures(program)
        for procedure in program.procedures:
            marked = with_deed(program, procedure.named)
            if marked is not None:
                wanted = not any(can_do(marked, start, "new") for start in range(program.modes))
                self.assertIs(procedure.named in procedures, wanted)
            for name, kind in procedure.parameters:
                marked = with_deed(program, procedure.named, name)
                if kind == "block" and marked is not None:
                    wanted = not any(can_do(marked, start, "new") for start in range(program.modes))
                    self.assertIs((procedure.named, name) in parameters, wanted)


class BaredTest(PromiseTest):
    def check(self, program, **bodies):
        """The bared program has these other bodies."""
        before = picture(program)
        wanted = program
        for name, body in bodies.items():
            wanted = wanted.with_procedure(Procedure(name, program[name].parameters, body))
        found = bared(program)
        self.assert_same(found, wanted)
        self.assert_same(bared(found), found)
        self.assertEqual(picture(program), before)

    def test_programs_of_the_document(self):
        self.check(SKIP, main=("call", "skip", DONE), lost=DONE)
        self.check(LOCKS)
        self.check(FLIPS)
        self.check(LOOP)
        self.check(wrapped_work(GO))

    def test_idle_procedures(self):
        program = main(("seq", NEVER, ("call", "p", GO)), Procedure("p", BLOCK, ("call", "q")), Procedure("q", (), FLIP))
        self.check(program, main=("seq", NEVER, ("call", "p", DONE)), p=DONE, q=DONE)

    def test_arguments_of_calls(self):
        last = Procedure("last", (("x", "block"), ("y", "block"), ("z", "block")), ("run", "z"))
        program = main(("call", "last", GO, ("call", "main"), ("call", "last", FLIP, FLIP, FLIP)), last)
        self.check(program, main=("call", "last", DONE, DONE, ("call", "last", DONE, DONE, FLIP)))

    def test_arguments_in_arguments(self):
        last = Procedure("last", (("x", "block"), ("y", "block")), ("run", "y"))
        inner = ("call", "last", ("call", "last", GO, GO), ("seq", GO, ("call", "last", ("or", GO), FLIP)))
        self.check(main(("or", inner, GO), last),
                   main=("or", ("call", "last", DONE, ("seq", GO, ("call", "last", DONE, FLIP))), GO))

    def test_arguments_of_wraps(self):
        around = Procedure("around", (("x", "block"), ("y", "block"), ("z", "block")), ("seq", ("run", "y"), ("run", "z")))
        user = Procedure("user", WRAP, ("wrap", ("own", "w"), FLIP))
        program = main(("seq", ("call", "user", ("with", "around", GO, FLIP)),
                        ("wrap", ("with", "around", ("call", "main"), ("seq", GO)), GO)), around, user)
        self.check(program, main=("seq", ("call", "user", ("with", "around", DONE, FLIP)),
                                  ("wrap", ("with", "around", DONE, ("seq", GO)), GO)))

    def test_wraps_in_wraps(self):
        outer = Procedure("outer", (("w", "wrap"), ("x", "block"), ("b", "block")), ("wrap", ("own", "w"), ("run", "b")))
        inner = Procedure("inner", (("x", "block"), ("b", "block")), ("run", "b"))
        program = main(("wrap", ("with", "outer", ("with", "inner", GO), FLIP), FLIP), outer, inner)
        self.check(program, main=("wrap", ("with", "outer", ("with", "inner", DONE), DONE), FLIP))

    def test_the_term_of_a_wrap(self):
        never = Procedure("never", (("x", "block"), ("b", "block")), ("run", "x"))
        user = Procedure("user", WRAP, ("wrap", ("own", "w"), FLIP))
        program = main(("seq", ("wrap", ("with", "never", GO), FLIP), ("call", "user", ("with", "never", GO))), never, user)
        # The wrap that is handed stands in no "with", so the term around which it is stays.
        self.check(program, main=("seq", ("wrap", ("with", "never", GO), DONE), ("call", "user", ("with", "never", GO))))

    def test_wraps_for_wraps_stay(self):
        user = Procedure("user", WRAP + BLOCK, ("run", "b"))
        program = main(("call", "user", ("with", "twice"), FLIP), user, TWICE)
        self.check(program, twice=DONE)
        user = Procedure("user", WRAP + BLOCK, DONE)
        self.check(main(("call", "user", ("with", "twice"), FLIP), user, TWICE), main=(
            "call", "user", ("with", "twice"), DONE), twice=DONE)

    def test_what_stands_in_idle_procedures_is_left_out(self):
        skip = Procedure("skip", BLOCK, DONE)
        lost = Procedure("lost", BLOCK, ("or", ("call", "skip", GO), ("run", "b")))
        self.check(main(("call", "skip", ("call", "lost", GO)), skip, lost), main=("call", "skip", DONE), lost=DONE)

    def test_runs_go_on_with_the_same_choices(self):
        changed = 0
        for seed in range(150):
            program, draw = random_program(seed), random.Random(seed)
            try:
                other = bared(program)
            except TooMany:
                continue
            changed += other != program
            self.assert_same(bared(other), other)
            for start in range(program.modes):
                for _ in range(4):
                    self.check_runs(program, other, start, draw)
        self.assertGreater(changed, 80)

    def check_runs(self, program, other, start, draw):
        """A run of both programs goes on in the same way, with some choices."""
        choices = []
        for _ in range(10):
            try:
                run = Run(program, start, *choices)
            except TooMany:
                self.assert_raises(TooMany, Run, other, start, *choices, limit=1000)
                return
            same = Run(other, start, *choices)
            self.assertEqual((same.state, same.mode, same.words, same.steps, same.options),
                             (run.state, run.mode, run.words, run.steps, run.options))
            if run.state != "waiting":
                return
            choices.append(draw.randrange(run.options))

    def test_ends_and_words_stay(self):
        for seed in range(60):
            program = random_program(seed)
            try:
                other = bared(program)
                for start in range(program.modes):
                    self.assert_same(ends(other, start), ends(program, start))
                    self.assertEqual([word for word in program.words if can_do(other, start, word)],
                                     list(words_done(program, start)))
            except TooMany:
                continue


class ErrorsTest(PromiseTest):
    def test_no_program(self):
        for value in anything():
            if value not in (FLIPS, LOCKS):
                self.assert_raises(InvalidProgram, is_idle, value, 7, 8)
                self.assert_raises(InvalidProgram, is_idle_procedure, value, 7)
                for call in (idle_parameters, idle_procedures, bared):
                    self.assert_raises(InvalidProgram, call, value)

    def test_names_that_are_not_there(self):
        many = crowd(9, 9)
        for value in anything():
            if value != "main":
                for program in (LOCKS, many):
                    self.assert_raises(UnknownName, is_idle, program, value, "b", name=value)
                    self.assert_raises(UnknownName, is_idle, program, value, 7, name=value)
                    self.assert_raises(UnknownName, is_idle_procedure, program, value, name=value)

    def test_what_is_no_block_parameter(self):
        many = crowd(9, 9)
        for value in anything():
            self.assert_raises(InvalidOperation, is_idle, LOCKS, "main", value)
            self.assert_raises(InvalidOperation, is_idle, LOCKS, "deep", value)
            self.assert_raises(InvalidOperation, is_idle, many, "branch", value)
        for name, parameter in (("deep", "w"), ("again", "w"), ("main", "b"), ("locked", "w"), ("locked", "block"),
                                ("again", "again"), ("locked", ("b", "block")), ("locked", ("b",)), ("locked", ["b"])):
            self.assert_raises(InvalidOperation, is_idle, LOCKS, name, parameter)
        self.assertIs(is_idle(LOCKS, "again", "b"), True)

    def test_just_800_and_more(self):
        program = watched_crowd(1)
        self.assertEqual(len(book_of(program, word="new")), 800)
        self.assertIs(is_idle(program, "one", "x"), True)
        self.assertIs(is_idle_procedure(program, "eins"), False)
        self.assertEqual(idle_procedures(program), ("duo",))
        self.assertEqual(len(idle_parameters(program)), 5)
        self.assert_same(bared(program)["duo"], program["duo"])
        for single in (2, 3):
            program = watched_crowd(single)
            self.assertLess(len(book_of(program)), 800)
            self.assert_raises(TooMany, is_idle, program, "one", "x", limit=800)
            self.assert_raises(TooMany, is_idle_procedure, program, "eins", limit=800)
            self.assert_raises(TooMany, is_idle_procedure, program, "main", limit=800)
            for call in (idle_parameters, idle_procedures, bared):
                self.assert_raises(TooMany, call, program, limit=800)

    def test_too_many_for_one_of_several(self):
        tell = Procedure("tell", (("x", "block"), ("y", "block")), ("seq", NEVER, ("run", "x")))
        self.assert_raises(TooMany, idle_procedures, flood(DONE, DONE, DONE), limit=800)
        self.assert_raises(TooMany, bared, flood(DONE, DONE, DONE), limit=800)
        self.assertEqual(idle_parameters(main(("call", "tell", GO, GO), tell)), (("tell", "x"), ("tell", "y")))
        self.assertEqual(idle_parameters(main(DONE)), ())
        self.assert_raises(TooMany, is_idle_procedure, crowd(4, 8), "main", limit=800)

    def test_lesser_relations_do_not_count(self):
        program = lesser_crowd(6, 2)
        self.assertIs(is_idle(program, "branch", "x"), True)
        self.assertIs(is_idle_procedure(program, "branch"), False)
        # With a deed ahead, neither main nor the block that is handed ever comes to all pairs.
        self.assertGreater(len(Slow(with_deed(program, "begin", "x"), "new").book(limit=9000)), 800)
        self.assert_raises(TooMany, is_idle, program, "begin", "x", limit=800)
        self.assertGreater(len(Slow(with_deed(program, "main"), "new").book(limit=9000)), 800)
        self.assert_raises(TooMany, is_idle_procedure, program, "main", limit=800)
        self.assert_raises(TooMany, idle_procedures, program, limit=800)
        self.assert_raises(TooMany, bared, program, limit=800)
        few = lesser_crowd(1, 2)
        self.assert_same(idle_procedures(few), ("pair",))
        self.assert_same(bared(few)["begin"].body, ("seq", ("or", DONE, ("call", "branch", DONE)), ("call", "late")))

    def test_where_all_is_defined(self):
        for name in ("is_idle", "idle_parameters", "is_idle_procedure", "idle_procedures", "bared"):
            self.assertEqual(getattr(idle, name).__module__, "blockshanded.ask.idle")

    def test_arguments_are_not_changed(self):
        before = picture((LOCKS, SKIP))
        for program in (LOCKS, SKIP):
            idle_parameters(program), idle_procedures(program), bared(program)
        self.assertEqual(picture((LOCKS, SKIP)), before)


class TimeTest(PromiseTest):
    def test_answers_are_quick(self):
        begin = time.perf_counter()
        names = "abcdefg"
        blocks = tuple((x, "block") for x in "xyz")
        body = ("or", ("run", "x")) + tuple(("call", name, ("run", "y"), ("run", "z"), FLIP) for name in names)
        program = main(("call", "a", GO, FLIP, NEVER), *[Procedure(name, blocks, body) for name in names])
        self.assertEqual(bared(program), program)
        wraps = main(("call", "again", ("with", "again", ("with", "again", ("with", "locked"))), GO), AGAIN, LOCKED)
        for other in (LOCKS, wraps, wrapped_work(GO), lesser_crowd(1, 3)):
            bared(other)
        self.assertLess(time.perf_counter() - begin, 20)


class ExampleTest(PromiseTest):
    def test_examples(self):
        self.assert_same(
            [is_idle(LOCKS, "locked", "b"), idle_parameters(LOCKS), idle_procedures(LOCKS), idle_parameters(FLIPS),
             idle_parameters(SKIP), idle_procedures(SKIP)],
            [False, (("again", "b"),), (), (), (("skip", "b"),), ("lost",)])
        self.assert_same(
            [bared(SKIP)["main"].body, bared(SKIP)["lost"].body, bared(LOCKS) == LOCKS],
            [("call", "skip", ("seq",)), ("seq",), True])


if __name__ == "__main__":
    unittest.main()
