"""Stage 10: `can_do`, `words_done`, `word_run`, `word_paper` and `is_word_paper`, [0.14] and [0.16]."""

import time
import unittest

from blockshanded.ask import words as words_module
from blockshanded.ask.ends import ends
from blockshanded.ask.words import can_do, is_word_paper, word_paper, word_run, words_done
from blockshanded.base.procedures import Procedure
from blockshanded.base.programs import Program
from blockshanded.errors import InvalidNumber, InvalidOperation, InvalidProgram, TooMany
from blockshanded.mean.books import book_of, is_book
from blockshanded.runs.runs import Run
from tests.crowds import crowd, flood, lesser_crowd
from tests.long_runs import DONE, TEN, long_or_deep, long_way, main, tenfold, wrapped_work
from tests.random_programs import random_program
from tests.samples import FLIP, FLIPS, LOCKS, LOOP, SKIP, PromiseTest, anything, no_names, picture
from tests.slowly import Slow, runs_from

MAIN = ("main", ())
BLOCK = (("b", "block"),)
GO = ("do", "go", (None, 0))


class DeedsTest(PromiseTest):
    def check(self, program, start, word, wanted):
        """Whether a run from the mode does the deed, all answers about it, and what judges them."""
        with self.subTest(start=start, word=word):
            self.assertIs(can_do(program, start, word), wanted)
            run, paper = word_run(program, start, word), word_paper(program, start, word)
            self.assertIs(is_word_paper(program, start, word, paper), True)
            if wanted:
                self.assert_same(paper, ("run", run))
                self.check_run(program, start, word, run)
            else:
                self.assertIsNone(run)
                self.assert_same(paper, ("book", book_of(program, word=word)))
                self.assertIs(is_book(program, paper[1], word=word), True)
            book = ("book", book_of(program, word=word))
            self.assertIs(is_word_paper(program, start, word, book), not wanted)

    def check_run(self, program, start, word, run):
        """The run stops behind the deed, also if it is done again."""
        self.assertIs(type(run), Run)
        self.assert_same((run.program, run.start, run.until, run.state), (program, start, word, "done"))
        self.assertEqual(run.words.index(word), len(run.words) - 1)
        self.assert_same(Run.of(program, start, run.choices, until=word), run)

    def test_programs_of_the_document(self):
        for start, words in ((0, ("lock", "unlock", "work")), (1, ())):
            self.assert_same(words_done(LOCKS, start), words)
            for word in ("lock", "unlock", "work", "other", "abcdefgh", "main"):
                self.check(LOCKS, start, word, word in words)
        for start in (0, 1):
            self.check(FLIPS, start, "flip", True)
            self.check(FLIPS, start, "flips", False)
            self.assert_same(words_done(FLIPS, start), ("flip",))
        self.check(LOOP, 0, "tick", True)
        self.check(LOOP, 0, "tock", False)
        self.check(SKIP, 0, "tick", False)
        self.assert_same(words_done(SKIP, 0), ())

    def test_runs_that_are_stuck_later_or_never_end(self):
        stuck = main(("seq", ("do", "a", (1, None)), ("do", "b", (0, None)), ("do", "c", (0, 0))))
        self.assert_same(words_done(stuck, 0), ("a",))
        self.assert_same(words_done(stuck, 1), ())
        self.assert_same(ends(stuck, 0), ())
        endless = main(("seq", ("do", "a", (1, 1)), ("call", "main"), ("do", "b", (0, 0))))
        self.assert_same(words_done(endless, 0), ("a",))
        for start in (0, 1):
            self.check(endless, start, "a", True)
            self.check(endless, start, "b", False)

    def test_deeds_that_cannot_be_done_there(self):
        program = main(("or", GO, ("do", "on", (1, None))))
        self.check(program, 0, "go", False)
        self.check(program, 1, "go", True)
        self.assert_same([words_done(program, start) for start in (0, 1)], [("on",), ("go",)])
        self.check(main(("seq", GO, ("do", "on", (1, 1)))), 0, "on", False)

    def test_the_first_of_several_deeds_with_the_word(self):
        program = main(("seq", ("or", DONE, FLIP), ("or", DONE, FLIP), FLIP))
        for start in (0, 1):
            run = word_run(program, start, "flip")
            self.assert_same(run.words, ("flip",))
            self.check(program, start, "flip", True)

    def test_a_deed_in_a_block_that_is_not_run(self):
        never = Procedure("never", BLOCK, ("seq", ("do", "stop", (None, None)), ("run", "b")))
        program = main(("call", "never", ("do", "go", (0, 1))), never)
        for start in (0, 1):
            self.check(program, start, "go", False)
            self.check(program, start, "stop", False)

    def test_wraps_of_wraps(self):
        program = wrapped_work(("do", "last", (None, 0)))
        words = (("last", "up", "work"), ("down", "last", "up", "work"))
        for start in (0, 1):
            self.assert_same(words_done(program, start), words[start])
            for word in ("down", "last", "up", "work", "other"):
                self.check(program, start, word, word in words[start])
        self.assert_same(word_run(program, 1, "last").words, ("down", "work", "up", "last"))
        self.assert_same(word_run(program, 1, "up").words, ("down", "work", "up"))

    def test_three_modes(self):
        program = main(("seq", ("do", "a", (1, 2, None)), ("do", "b", (None, None, 0))), modes=3)
        self.assert_same([words_done(program, start) for start in (0, 1, 2)], [("a",), ("a", "b"), ()])
        for start in (0, 1, 2):
            self.check(program, start, "a", start < 2)
            self.check(program, start, "b", start == 1)

    def test_random_programs(self):
        many = 0
        for seed in range(150):
            program = random_program(seed)
            for word in ("a", "b"):
                book = Slow(program, word).book(limit=300)
                for start in range(program.modes if book else 0):
                    with self.subTest(seed=seed, word=word, start=start):
                        bit = start * (program.modes + 1) + program.modes
                        wanted = book[MAIN] >> bit & 1 == 1
                        many += wanted
                        self.check_random(program, start, word, wanted)
        self.assertGreater(many, 100)

    def check_random(self, program, start, word, wanted):
        paper = word_paper(program, start, word)
        self.assertEqual(paper[0], "run" if wanted else "book")
        self.assertIs(is_word_paper(program, start, word, paper), True)
        self.assertIs(word in words_done(program, start), wanted)
        if wanted:
            self.check_run(program, start, word, paper[1])

    def test_runs_tell_all_words(self):
        for seed in range(100):
            program = random_program(seed)
            for start in range(program.modes):
                try:
                    found = {word for run in runs_from(program, start) for word in run.words}
                    self.assertLessEqual(found, set(words_done(program, start)))
                except TooMany:
                    continue


class LongTest(PromiseTest):
    def test_the_only_run_has_more_than_1000_steps(self):
        program = long_way(3, ("do", "late", (0, None)))
        self.assert_same([words_done(program, start) for start in (0, 1)], [("late", "tick"), ("tick",)])
        self.assertIs(can_do(program, 0, "late"), True)
        self.assert_raises(TooMany, word_run, program, 0, "late", limit=1000)
        self.assert_raises(TooMany, word_paper, program, 0, "late", limit=1000)
        self.assertIsNone(word_run(program, 1, "late"))
        self.assert_same(word_run(program, 0, "tick").words, ("tick",))

    def test_a_run_of_just_1000_steps(self):
        for steps in (998, 999, 1000, 1001):
            hundred = Procedure("hundred", (), ("seq",) + (("call", "ten"),) * 9)
            ten = Procedure("ten", (), ("seq",) + (DONE,) * 9)
            many, rest = divmod(steps - 1 - 1, 101)
            tens, rest = divmod(rest, 11)
            body = ("seq",) + (("call", "hundred"),) * many + (("call", "ten"),) * tens + (DONE,) * rest
            # What comes behind the deed does not matter.
            program = main(body + (FLIP, ("call", "main")), hundred, ten)
            if steps > 1000:
                self.assert_raises(TooMany, word_run, program, 0, "flip", limit=1000)
                self.assert_raises(TooMany, word_paper, program, 0, "flip", limit=1000)
            else:
                self.assert_same(word_run(program, 0, "flip").steps, steps)

    def test_a_short_run_that_is_found_late(self):
        for calls in range(1, 6):
            run = word_run(long_or_deep(calls), 0, "turn")
            self.assert_same((run.state, run.mode, run.choices), ("done", 1, (1,)))

    def test_too_many_contexts_come_first(self):
        program = flood(DONE, DONE, DONE).with_procedure(TEN)
        body = ("or", ("seq", tenfold(3, DONE), FLIP), program["main"].body)
        program = program.with_procedure(Procedure("main", (), body))
        self.assert_raises(TooMany, word_run, program, 0, "flip", limit=800)
        self.assert_raises(TooMany, word_paper, program, 0, "flip", limit=800)


class ErrorsTest(PromiseTest):
    def test_no_program(self):
        for value in anything():
            if value not in (FLIPS, LOCKS):
                for call in (can_do, word_run, word_paper):
                    self.assert_raises(InvalidProgram, call, value, 7, 8)
                self.assert_raises(InvalidProgram, is_word_paper, value, 7, 8, None)
                self.assert_raises(InvalidProgram, words_done, value, 7)

    def test_no_mode(self):
        many = crowd(9, 9)
        for value in anything():
            if picture(value) in [picture(mode) for mode in (0, 1)]:
                continue
            for program in (FLIPS, many):
                for call in (can_do, word_run, word_paper):
                    self.assert_raises(InvalidNumber, call, program, value, "flip", value=value)
                    self.assert_raises(InvalidNumber, call, program, value, 7, value=value)
                self.assert_raises(InvalidNumber, is_word_paper, program, value, None, None, value=value)
                self.assert_raises(InvalidNumber, words_done, program, value, value=value)

    def test_no_word(self):
        many = crowd(9, 9)
        for value in no_names():
            for program in (FLIPS, many):
                for call in (can_do, word_run, word_paper):
                    self.assert_raises(InvalidOperation, call, program, 0, value)
                self.assert_raises(InvalidOperation, is_word_paper, program, 0, value, None)

    def test_too_many(self):
        # The watched word makes the rows longer: without it there are 800 contexts and fewer.
        for program in (crowd(4, 9), crowd(4, 8), crowd(1, 0), flood(DONE, DONE, DONE)):
            for call in (can_do, word_run, word_paper):
                for word in ("go", "other"):
                    self.assert_raises(TooMany, call, program, 0, word, limit=800)
        self.assert_raises(TooMany, words_done, crowd(1, 0), 1, limit=800)
        self.assert_same(words_done(flood(DONE, DONE, DONE), 1), ())
        flooded = flood(FLIP, DONE, DONE)
        self.assert_raises(TooMany, words_done, flooded, 1, limit=800)

    def test_lesser_relations_do_not_count(self):
        program = lesser_crowd(6, 3)
        self.assertGreater(len(Slow(program, "other").explored(limit=9000)[0]), 800)
        self.assertEqual(len(book_of(program, word="other")), 583)
        self.assertIs(can_do(program, 0, "other"), False)

    def test_judging_needs_no_book_of_its_own(self):
        program = crowd(4, 9)
        book = Slow(program, "other").book(limit=9000)
        self.assertGreater(len(book), 800)
        self.assertIs(is_word_paper(program, 0, "other", ("book", book)), True)
        self.assertIs(is_word_paper(program, 0, "go", ("book", book)), False)
        self.assertIs(is_word_paper(program, 0, "other", None), False)

    def test_where_all_is_defined(self):
        for name in ("can_do", "words_done", "word_run", "word_paper", "is_word_paper"):
            self.assertEqual(getattr(words_module, name).__module__, "blockshanded.ask.words")


class JudgeTest(PromiseTest):
    def check(self, wanted, program, start, word, value):
        before = picture(value)
        self.assertIs(is_word_paper(program, start, word, value), wanted)
        self.assertEqual(picture(value), before)

    def test_every_run_that_does_it(self):
        self.check(True, LOCKS, 0, "work", ("run", Run(LOCKS, 0, 0, until="work")))
        self.check(True, LOCKS, 0, "lock", ("run", Run(LOCKS, 0, 0, until="lock")))
        self.check(True, LOCKS, 0, "lock", ("run", Run(LOCKS, 0, 1, 0, until="lock")))
        self.check(True, LOCKS, 0, "lock", ("run", Run(LOCKS, 0, 1, 1, 0, until="lock")))
        self.check(True, FLIPS, 1, "flip", ("run", Run(FLIPS, 1, 0, until="flip")))
        self.check(True, FLIPS, 1, "flip", ("run", Run(FLIPS, 1, 1, 0, until="flip")))
        self.check(True, LOOP, 0, "tick", ("run", Run(LOOP, 0, until="tick")))

    def test_runs_with_another_until(self):
        self.check(False, LOCKS, 0, "work", ("run", Run(LOCKS, 0, 0)))
        self.check(False, LOCKS, 0, "work", ("run", Run(LOCKS, 0, 0, until="unlock")))
        self.check(False, LOCKS, 0, "work", ("run", Run(LOCKS, 0, 0, until="lock")))
        self.check(False, LOCKS, 0, "lock", ("run", Run(LOCKS, 0, 0, until="work")))
        self.check(False, FLIPS, 0, "flip", ("run", Run(FLIPS, 0, 0, 0)))

    def test_runs_that_go_on_or_stop_elsewhere(self):
        self.check(False, FLIPS, 0, "flip", ("run", Run(FLIPS, 0, until="flip")))
        self.check(False, FLIPS, 0, "flip", ("run", Run(FLIPS, 0, 1, until="flip")))
        self.check(False, FLIPS, 0, "flip", ("run", Run(FLIPS, 0, 1, 1, until="flip")))
        self.check(False, LOCKS, 0, "work", ("run", Run(LOCKS, 0, 1, 0, until="work")))
        self.check(False, LOCKS, 1, "lock", ("run", Run(LOCKS, 1, 0, until="lock")))

    def test_runs_of_other_programs_and_modes(self):
        self.check(False, FLIPS, 1, "flip", ("run", Run(FLIPS, 0, 0, until="flip")))
        other = FLIPS.with_procedure(Procedure("new", (), DONE))
        self.check(False, FLIPS, 0, "flip", ("run", Run(other, 0, 0, until="flip")))
        self.check(True, other, 0, "flip", ("run", Run(other, 0, 0, until="flip")))
        self.check(True, FLIPS, 0, "flip", ("run", Run(Program(2, *FLIPS.procedures), 0, 0, until="flip")))

    def test_closed_books(self):
        book = book_of(LOCKS, word="work")
        self.check(True, LOCKS, 1, "work", ("book", book))
        self.check(False, LOCKS, 0, "work", ("book", book))
        space = Slow(LOCKS, "work")
        self.check(True, LOCKS, 1, "work", ("book", {**book, MAIN: book[MAIN] | space.number({(1, 0), (1, 1)})}))
        self.check(False, LOCKS, 1, "work", ("book", {**book, MAIN: book[MAIN] | space.number({(1, 2)})}))
        for word in ("lock", "unlock", "other"):
            self.check(True, LOCKS, 1, word, ("book", book_of(LOCKS, word=word)))

    def test_books_that_are_not_closed(self):
        book = book_of(LOCKS, word="work")
        for context in list(book)[::9]:
            less = {other: book[other] for other in book if other != context}
            self.check(False, LOCKS, 1, "work", ("book", less))
        self.check(False, LOCKS, 0, "work", ("book", {**book, MAIN: 0}))
        self.check(False, LOCKS, 1, "work", ("book", {MAIN: 0}))
        self.check(False, LOCKS, 1, "work", ("book", {}))
        self.check(False, LOCKS, 1, "work", ("book", {**book, "work": 0}))

    def test_books_of_other_words_and_programs(self):
        self.check(False, LOCKS, 1, "work", ("book", book_of(LOCKS)))
        self.check(False, LOCKS, 0, "work", ("book", book_of(LOCKS, word="lock")))
        self.check(False, LOCKS, 0, "lock", ("book", book_of(LOCKS, word="work")))
        self.check(False, LOCKS, 1, "work", ("book", book_of(FLIPS, word="work")))
        # A closed book for one word is one for another word, too, where no deed of both can be done.
        self.check(True, SKIP, 0, "tick", ("book", book_of(SKIP, word="tick")))
        self.check(False, SKIP, 0, "tick", ("book", book_of(SKIP, word="tock")))

    def test_values_of_other_forms(self):
        run, book = Run(LOCKS, 0, 0, until="work"), book_of(LOCKS, word="work")
        for value in (run, book, ("run",), ("run", run, run), ["run", run], ("Run", run), ("book", run), ("run", book),
                      ("book", [book]), ("book", (book,)), ("run", (run,)), (run, "run"), ("run", None), ("book", None),
                      ("run", (0,)), {"run": run}, ("", run), (None, run), ("book", tuple(book.items()))):
            for start in (0, 1):
                self.check(False, LOCKS, start, "work", value)
        for value in anything():
            self.check(False, LOCKS, 0, "work", value)
            self.check(False, LOCKS, 0, "work", ("run", value))
            self.check(False, LOCKS, 1, "work", ("book", value))
            self.check(False, LOCKS, 0, "work", (value, run))
            self.check(False, LOCKS, 1, "work", (value, book))

    def test_just_one_kind_exists(self):
        for seed in range(60):
            program = random_program(seed)
            try:
                book = book_of(program, word="a")
            except TooMany:
                continue
            for start in range(program.modes):
                run = word_run(program, start, "a")
                is_book_paper = is_word_paper(program, start, "a", ("book", book))
                self.assertIs(is_word_paper(program, start, "a", ("run", run)), not is_book_paper)


class TimeTest(PromiseTest):
    def test_answers_are_quick(self):
        begin = time.perf_counter()
        for program in (LOCKS, lesser_crowd(6, 3), long_or_deep(5), long_way(2, GO)):
            for start in (0, 1):
                words_done(program, start)
                word_paper(program, start, "tick")
        self.assertLess(time.perf_counter() - begin, 10)


class ExampleTest(PromiseTest):
    def test_examples(self):
        self.assert_same(
            [can_do(LOCKS, 0, "work"), can_do(LOCKS, 1, "work"), words_done(LOCKS, 0),
             word_run(LOCKS, 0, "unlock").words[-1], word_run(LOCKS, 1, "lock")],
            [True, False, ("lock", "unlock", "work"), "unlock", None])
        self.assert_same(
            [word_run(LOOP, 0, "tick") == Run(LOOP, 0, until="tick"), word_run(LOOP, 0, "tick").steps, ends(LOOP, 0),
             is_word_paper(LOCKS, 1, "work", ("book", book_of(LOCKS, word="work"))), word_paper(LOCKS, 0, "unlock")[0]],
            [True, 2, (), True, "run"])


if __name__ == "__main__":
    unittest.main()
