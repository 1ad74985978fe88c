"""Stage 9: `can_end`, `ends`, `end_run`, `end_paper` and `is_end_paper`, [0.9] and [0.14]."""

import time
import unittest

from blockshanded.ask import ends as ends_module
from blockshanded.ask.ends import can_end, end_paper, end_run, ends, is_end_paper
from blockshanded.base.procedures import Procedure
from blockshanded.base.programs import Program
from blockshanded.errors import InvalidNumber, InvalidProgram, TooMany
from blockshanded.mean.books import book_of, is_book
from blockshanded.runs.runs import Run
from tests.crowds import crowd, flood, lesser_crowd
from tests.long_runs import DONE, TEN, long_or_deep, long_way, main, tenfold, wrapped_work
from tests.random_programs import random_program
from tests.samples import AGAIN, FLIP, FLIPS, LOCKED, LOCKS, LOOP, SKIP, TWICE, PromiseTest, anything, picture
from tests.slowly import Slow, runs_from

MAIN = ("main", ())
BLOCK = (("b", "block"),)


NAMED = {"flips": FLIPS, "locks": LOCKS, "loop": LOOP, "skip": SKIP, "lesser": lesser_crowd(3, 3),
         "wrapped": wrapped_work(), "wrapped more": wrapped_work(FLIP, ("do", "last", (0, None))),
         "long": long_way(2, FLIP), "deep": long_or_deep(4), "crowd": crowd(4, 8)}


class EndsTest(PromiseTest):
    def check(self, program, start, wanted):
        """The ends of the runs from a mode, all answers about them, and what judges them."""
        self.assert_same(ends(program, start), wanted)
        for end in range(program.modes):
            self.assertIs(can_end(program, start, end), end in wanted)
            run, paper = end_run(program, start, end), end_paper(program, start, end)
            self.assertIs(is_end_paper(program, start, end, paper), True)
            if end in wanted:
                self.assert_same(paper, ("run", run))
                self.check_run(program, start, end, run)
            else:
                self.assertIsNone(run)
                self.assert_same(paper, ("book", book_of(program)))
                self.assertIs(is_book(program, paper[1]), True)
            self.assertIs(is_end_paper(program, start, end, ("book", book_of(program))), end not in wanted)

    def check_run(self, program, start, end, run):
        """The run ends as it is told, also if it is done again."""
        self.assertIs(type(run), Run)
        self.assert_same((run.program, run.start, run.until), (program, start, None))
        self.assert_same((run.state, run.mode), ("ended", end))
        self.assert_same(Run.of(program, start, run.choices), run)

    def test_named_programs(self):
        for name, program in NAMED.items():
            relation = Slow(program).book()[MAIN]
            for start in range(program.modes):
                with self.subTest(name=name, start=start):
                    wanted = tuple(end for end in range(program.modes)
                                   if relation >> (start * program.modes + end) & 1)
                    self.check(program, start, wanted)

    def test_one_deed(self):
        program = main(("do", "go", (None, 0, 0)), modes=3)
        self.check(program, 0, ())
        self.check(program, 1, (0,))
        self.check(program, 2, (0,))

    def test_choices(self):
        program = main(("or", ("do", "a", (2, None, None)), ("do", "b", (1, None, None)), DONE), modes=3)
        self.check(program, 0, (0, 1, 2))
        self.check(program, 1, (1,))
        self.check(program, 2, (2,))

    def test_programs_that_call_themselves(self):
        self.check(LOOP, 0, ())
        self.check(main(("call", "main")), 1, ())
        self.check(main(("or", ("call", "main"), ("do", "go", (1, None)))), 0, (1,))
        self.check(main(("or", ("seq", FLIP, ("call", "main")), ("do", "go", (0, None)))), 1, (0,))

    def test_wraps_of_wraps(self):
        self.check(LOCKS, 0, (0,))
        self.check(LOCKS, 1, ())
        self.check(wrapped_work(), 0, (1,))
        self.check(wrapped_work(), 1, (0, 1))
        self.assert_same(end_run(wrapped_work(), 1, 1).words, ("down", "work", "up"))
        last = ("do", "last", (None, 0))
        self.check(wrapped_work(last), 1, (0,))
        self.assert_same(end_run(wrapped_work(last), 1, 0).words, ("down", "work", "up", "last"))

    def test_a_block_is_not_run_in_the_same_way_each_time(self):
        program = main(("call", "twice", ("or", ("do", "a", (1, None)), ("do", "b", (None, 0)))), TWICE)
        self.check(program, 0, (0,))
        self.check(program, 1, (1,))
        self.assert_same(end_run(program, 0, 0).words, ("a", "b"))

    def test_random_programs(self):
        many = 0
        for seed in range(120):
            program = random_program(seed)
            slow = Slow(program).book(limit=400)
            if slow is None:
                continue
            for start in range(program.modes):
                with self.subTest(seed=seed, start=start):
                    wanted = tuple(end for end in range(program.modes)
                                   if slow[MAIN] >> (start * program.modes + end) & 1)
                    self.check_random(program, start, wanted)
                    many += len(wanted)
        self.assertGreater(many, 150)

    def check_random(self, program, start, wanted):
        for end in range(program.modes):
            paper = end_paper(program, start, end)
            self.assertEqual(paper[0], "run" if end in wanted else "book")
            self.assertIs(is_end_paper(program, start, end, paper), True)
            if paper[0] == "run":
                self.check_run(program, start, end, paper[1])
        self.assertEqual(ends(program, start), wanted)

    def test_runs_tell_all_ends(self):
        for seed in range(150):
            program = random_program(seed)
            for start in range(program.modes):
                try:
                    found = {run.mode for run in runs_from(program, start) if run.state == "ended"}
                except TooMany:
                    continue
                self.assertLessEqual(found, set(ends(program, start)))

    def test_replaced_by_its_body(self):
        # A call without arguments, and its body in its place.
        for seed in range(60):
            program = random_program(seed)
            bodies = program["main"].body
            other = program.with_procedure(Procedure("again", (), bodies))
            other = other.with_procedure(Procedure("main", (), ("call", "again")))
            for start in range(program.modes):
                try:
                    wanted = ends(program, start)
                except TooMany:
                    continue
                self.assert_same(ends(other, start), wanted)


class LongTest(PromiseTest):
    def test_the_only_run_has_more_than_1000_steps(self):
        for deep, block in ((3, FLIP), (3, DONE), (4, FLIP)):
            program = main(("seq", tenfold(deep, block), FLIP), TEN)
            self.assert_same(ends(program, 0), (1,))
            self.assertIs(can_end(program, 0, 1), True)
            self.assert_raises(TooMany, end_run, program, 0, 1, limit=1000)
            self.assert_raises(TooMany, end_paper, program, 0, 1, limit=1000)
            self.assertIsNone(end_run(program, 0, 0))
            self.assertEqual(end_paper(program, 0, 0)[0], "book")

    def test_a_run_of_just_1000_steps(self):
        for steps in (998, 999, 1000, 1001):
            hundred = Procedure("hundred", (), ("seq",) + (("call", "ten"),) * 9)
            ten = Procedure("ten", (), ("seq",) + (DONE,) * 9)
            # 101 steps for each call of hundred, 11 for each of ten, and one for main.
            many, rest = divmod(steps - 1 - 1, 101)
            tens, rest = divmod(rest, 11)
            body = ("seq",) + (("call", "hundred"),) * many + (("call", "ten"),) * tens + (DONE,) * rest + (FLIP,)
            program = main(body, hundred, ten)
            if steps > 1000:
                self.assert_raises(TooMany, end_run, program, 0, 1, limit=1000)
            else:
                self.assert_same(end_run(program, 0, 1).steps, steps)

    def test_a_run_of_many_choices(self):
        program = main(("seq", ("or", DONE, FLIP),) + (("call", "ten", ("call", "ten", ("or", FLIP))),), TEN)
        run = end_run(program, 0, 0)
        self.assert_same((run.state, run.mode, len(run)), ("ended", 0, 101))
        self.assertEqual(end_run(program, 0, 1).mode, 1)

    def test_a_short_run_that_is_found_late(self):
        for calls in range(1, 6):
            run = end_run(long_or_deep(calls), 0, 1)
            self.assert_same((run.state, run.mode, run.choices), ("ended", 1, (1,)))

    def test_too_many_contexts_come_first(self):
        program = flood(DONE, DONE, DONE).with_procedure(TEN)
        program = program.with_procedure(Procedure("main", (), ("or", tenfold(3, DONE), program["main"].body)))
        self.assert_raises(TooMany, end_run, program, 0, 0, limit=800)
        self.assert_raises(TooMany, end_paper, program, 0, 0, limit=800)


class ErrorsTest(PromiseTest):
    def test_no_program(self):
        for value in anything():
            if value not in (FLIPS, LOCKS):
                for call in (can_end, end_run, end_paper):
                    self.assert_raises(InvalidProgram, call, value, 7, 8)
                self.assert_raises(InvalidProgram, is_end_paper, value, 7, 8, None)
                self.assert_raises(InvalidProgram, ends, value, 7)

    def test_no_modes(self):
        many = crowd(9, 9)
        for value in anything():
            if picture(value) in [picture(mode) for mode in (0, 1)]:
                continue
            for program in (FLIPS, many):
                for call in (can_end, end_run, end_paper):
                    self.assert_raises(InvalidNumber, call, program, value, 0, value=value)
                    self.assert_raises(InvalidNumber, call, program, 1, value, value=value)
                    self.assert_raises(InvalidNumber, call, program, value, 9, value=value)
                    self.assert_raises(InvalidNumber, call, program, 9, value, value=9)
                self.assert_raises(InvalidNumber, is_end_paper, program, value, 9, None, value=value)
                self.assert_raises(InvalidNumber, is_end_paper, program, 0, value, None, value=value)
                self.assert_raises(InvalidNumber, ends, program, value, value=value)
        self.assert_raises(InvalidNumber, can_end, LOOP, 0, 1, value=1)
        self.assert_raises(InvalidNumber, ends, LOOP, 1, value=1)

    def test_too_many(self):
        for program in (crowd(4, 9), crowd(9, 9), flood(DONE, DONE, DONE)):
            for call in (can_end, end_run, end_paper):
                self.assert_raises(TooMany, call, program, 0, 1, limit=800)
                self.assert_raises(TooMany, call, program, 0, 0, limit=800)
            self.assert_raises(TooMany, ends, program, 1, limit=800)

    def test_judging_needs_no_book_of_its_own(self):
        program = crowd(9, 9)
        book = Slow(program).book()
        end = 0 if book[MAIN] & 1 == 0 else 1
        self.assertIs(is_end_paper(program, 0, end, ("book", book)), book[MAIN] >> end & 1 == 0)
        self.assertIs(is_end_paper(program, 0, end, None), False)

    def test_where_all_is_defined(self):
        for name in ("can_end", "ends", "end_run", "end_paper", "is_end_paper"):
            self.assertEqual(getattr(ends_module, name).__module__, "blockshanded.ask.ends")


class JudgeTest(PromiseTest):
    def check(self, wanted, program, start, end, value):
        before = picture(value)
        self.assertIs(is_end_paper(program, start, end, value), wanted)
        self.assertEqual(picture(value), before)

    def test_every_run_that_ends_so(self):
        for choices in ((0, 0), (0, 1), (1, 0), (1, 1)):
            run = Run(FLIPS, 0, *choices)
            for end in (0, 1):
                self.check(run.mode == end, FLIPS, 0, end, ("run", run))
                self.check(False, FLIPS, 1, end, ("run", run))

    def test_runs_with_until(self):
        # The word is not done, so the run has ended.
        self.check(True, FLIPS, 0, 0, ("run", Run(FLIPS, 0, 1, 1, until="flip")))
        self.check(True, FLIPS, 0, 0, ("run", Run(FLIPS, 0, 0, 0, until="other")))
        self.check(False, FLIPS, 0, 1, ("run", Run(FLIPS, 0, 0, until="flip")))
        self.check(False, main(FLIP), 0, 1, ("run", Run(main(FLIP), 0, until="flip")))

    def test_runs_that_have_not_ended(self):
        self.check(False, FLIPS, 0, 0, ("run", Run(FLIPS, 0)))
        self.check(False, FLIPS, 0, 0, ("run", Run(FLIPS, 0, 1)))
        self.check(False, FLIPS, 0, 1, ("run", Run(FLIPS, 0, 0)))
        for start in (0, 1):
            stuck = Run(LOCKS, start, 1, 0)
            for end in (0, 1):
                self.check(False, LOCKS, start, end, ("run", stuck))

    def test_runs_of_other_programs(self):
        other = FLIPS.with_procedure(Procedure("new", (), DONE))
        self.check(False, FLIPS, 0, 1, ("run", Run(other, 0, 0, 1)))
        self.check(True, other, 0, 1, ("run", Run(other, 0, 0, 1)))
        self.check(True, FLIPS, 0, 1, ("run", Run(Program(2, *FLIPS.procedures), 0, 0, 1)))
        self.check(False, FLIPS, 0, 1, ("run", Run(Program(2, *FLIPS.procedures[::-1]), 0, 0, 1)))

    def test_closed_books(self):
        book = book_of(LOCKS)
        for start, end, wanted in ((0, 0, False), (0, 1, True), (1, 0, True), (1, 1, True)):
            self.check(wanted, LOCKS, start, end, ("book", book))
        self.check(True, LOCKS, 1, 0, ("book", {**book, MAIN: 3}))
        self.check(False, LOCKS, 0, 1, ("book", {**book, MAIN: 3}))
        self.check(False, LOCKS, 1, 1, ("book", {**book, MAIN: 9}))
        self.check(True, LOCKS, 1, 1, ("book", {**book, ("locked", (4,)): book[("locked", (4,))]}))

    def test_books_that_are_not_closed(self):
        book = book_of(LOCKS)
        for context in list(book)[::5]:
            less = {other: book[other] for other in book if other != context}
            self.check(False, LOCKS, 1, 0, ("book", less))
        self.check(False, LOCKS, 1, 0, ("book", {**book, MAIN: 0}))
        self.check(False, LOCKS, 1, 0, ("book", {}))
        self.check(False, FLIPS, 0, 0, ("book", {MAIN: 0}))
        self.check(False, FLIPS, 0, 0, ("book", {MAIN: 0, ("twice", (15,)): 15}))
        self.check(False, LOCKS, 1, 0, ("book", {**book, "main": 0}))

    def test_books_of_other_words_and_programs(self):
        self.check(False, LOCKS, 1, 0, ("book", book_of(LOCKS, word="work")))
        self.check(False, LOCKS, 1, 0, ("book", book_of(LOCKS, word="other")))
        self.check(False, LOCKS, 1, 0, ("book", {MAIN: 0}))
        # A book with a watched word can be one without it, too, where no relation is too great and nothing is asked for.
        program = main(("do", "never", (None, None)))
        self.check(True, program, 1, 0, ("book", book_of(program, word="never")))

    def test_values_of_other_forms(self):
        run, book = Run(LOCKS, 0, 0), book_of(LOCKS)
        for value in (run, book, ("run",), ("run", run, run), ["run", run], ("Run", run), ("book", run), ("run", book),
                      ("book", [book]), ("book", (book,)), ("run", (run,)), (run, "run"), ("run", None), ("book", None),
                      ("run", (0,)), {"run": run}, ("", run), (None, run), (True, run), ("book", tuple(book.items()))):
            for start, end in ((0, 0), (0, 1), (1, 0)):
                self.check(False, LOCKS, start, end, value)
        for value in anything():
            self.check(False, LOCKS, 0, 0, value)
            self.check(False, LOCKS, 0, 0, ("run", value))
            self.check(False, LOCKS, 1, 0, ("book", value))
            self.check(False, LOCKS, 0, 0, (value, run))
            self.check(False, LOCKS, 1, 0, (value, book))

    def test_just_one_kind_exists(self):
        for seed in range(60):
            program = random_program(seed)
            try:
                book = book_of(program)
            except TooMany:
                continue
            for start in range(program.modes):
                for end in range(program.modes):
                    run = end_run(program, start, end)
                    is_book_paper = is_end_paper(program, start, end, ("book", book))
                    self.assertIs(is_end_paper(program, start, end, ("run", run)), not is_book_paper)


class TimeTest(PromiseTest):
    def test_answers_are_quick(self):
        begin = time.perf_counter()
        for program in (LOCKS, wrapped_work(), lesser_crowd(6, 3), crowd(4, 8), main(
                ("call", "again", ("with", "again", ("with", "again", ("with", "locked"))), DONE), AGAIN, LOCKED)):
            for start in (0, 1):
                end_paper(program, start, 0)
        self.assertLess(time.perf_counter() - begin, 10)


class ExampleTest(PromiseTest):
    def test_examples(self):
        self.assert_same(
            [ends(FLIPS, 0), ends(LOCKS, 0), ends(LOCKS, 1), end_run(LOCKS, 0, 1),
             end_run(FLIPS, 1, 0).words.count("flip") % 2],
            [(0, 1), (0,), (), None, 1])
        self.assert_same(
            [is_end_paper(LOCKS, 0, 0, ("run", Run(LOCKS, 0, 0))), is_end_paper(LOCKS, 0, 1, ("book", book_of(LOCKS))),
             is_end_paper(LOCKS, 0, 0, ("book", book_of(LOCKS))), end_paper(LOCKS, 1, 1)[0]],
            [True, True, False, "book"])


if __name__ == "__main__":
    unittest.main()
