"""Stage 4: `Run` and `Run.of`, [0.9]."""

import unittest

from blockshanded.base.procedures import Procedure
from blockshanded.base.programs import Program
from blockshanded.errors import InvalidNumber, InvalidOperation, InvalidProgram, TooMany
from blockshanded.runs.runs import MAX_STEPS, Run
from tests.random_programs import random_program
from tests.samples import FLIP, FLIPS, LOCKS, LOOP, SKIP, TWICE, PromiseTest, anything, no_names, picture

DONE = ("seq",)
BLOCK = (("b", "block"),)


def main(body, *others, modes=2):
    """A program with this body of main."""
    return Program(modes, Procedure("main", (), body), *others)


def deed(word, *table):
    return ("do", word, table)


def stretched(steps, *behind):
    """A program that takes so many steps, from 963 to 1001, before it comes to the terms behind."""
    assert 963 <= steps <= 1001
    forty = Procedure("forty", (), ("seq",) + (DONE,) * 38)
    rest = Procedure("rest", (), ("seq",) + (DONE,) * (steps - 963))
    return main(("seq",) + (("call", "forty"),) * 24 + (("call", "rest"),) + behind, forty, rest)


class RunTest(PromiseTest):
    def check(self, program, start, choices, until=None, **wanted):
        """The run has these properties, and Run.of makes an equal one."""
        with self.subTest(start=start, choices=choices, until=until):
            run = Run(program, start, *choices, until=until)
            self.assert_same((run.program, run.start, run.choices, run.until), (program, start, choices, until))
            self.assert_same(len(run), len(choices))
            for name, value in wanted.items():
                self.assert_same((name, getattr(run, name)), (name, value))
            self.assert_same(Run.of(program, start, choices, until=until), run)
            self.assert_equal_things(Run.of(program, start, choices, until=until), run)

    def check_error(self, error, program, start, choices, until=None, **attributes):
        """Both ways to make the run raise this error."""
        with self.subTest(start=start, choices=choices, until=until):
            by_keyword = {"until": until}
            self.assert_raises(error, Run, program, start, *choices, by_keyword=by_keyword, **attributes)
            self.assert_raises(error, Run.of, program, start, choices, by_keyword=by_keyword, **attributes)


class StepsTest(RunTest):
    def test_deeds(self):
        program = main(deed("go", 1, None))
        self.check(program, 0, (), state="ended", mode=1, words=("go",), steps=1, options=0)
        self.check(program, 1, (), state="stuck", mode=1, words=(), steps=1, options=0)
        self.check(main(deed("go", 0, 0)), 1, (), state="ended", mode=0, words=("go",))
        self.check(main(deed("go", 0, 0)), 0, (), state="ended", mode=0, words=("go",))

    def test_seq(self):
        self.check(main(DONE), 1, (), state="ended", mode=1, words=(), steps=1)
        program = main(("seq", deed("a", 1, 0), ("seq", deed("b", 1, 0), DONE), deed("c", None, 1)))
        self.check(program, 0, (), state="stuck", mode=0, words=("a", "b"), steps=6)
        self.check(program, 1, (), state="ended", mode=1, words=("a", "b", "c"), steps=6)

    def test_or(self):
        program = main(("or", deed("a", 1, 1), ("seq", ("or", deed("b", 0, 0)), deed("c", 0, 0))))
        self.check(program, 0, (), state="waiting", mode=0, words=(), steps=0, options=2)
        self.check(program, 0, (0,), state="ended", mode=1, words=("a",), steps=2, options=0)
        self.check(program, 0, (1,), state="waiting", mode=0, words=(), steps=2, options=1)
        self.check(program, 1, (1, 0), state="ended", mode=0, words=("b", "c"), steps=5, options=0)

    def test_or_of_one_term_needs_a_choice(self):
        self.check(main(("or", DONE)), 0, (), state="waiting", steps=0, options=1)
        self.check(main(("or", DONE)), 0, (0,), state="ended", steps=2, options=0)

    def test_blocks_are_run_by_name(self):
        self.check(FLIPS, 0, (0, 0), words=("flip", "flip"), mode=0, steps=8, state="ended")
        self.check(FLIPS, 0, (1, 1), words=(), mode=0, steps=8, state="ended")
        self.check(FLIPS, 0, (0, 1), words=("flip",), mode=1, steps=8, state="ended")
        self.check(FLIPS, 0, (0,), state="waiting", mode=1, words=("flip",), steps=6, options=2)

    def test_a_block_that_is_handed_and_not_run(self):
        self.check(SKIP, 0, (), words=(), steps=2, state="ended")

    def test_a_block_has_the_parameters_of_the_body_where_it_stands(self):
        inner = Procedure("inner", BLOCK, ("seq", deed("i", 0, 1), ("run", "b")))
        outer = Procedure("outer", BLOCK, ("call", "inner", ("seq", deed("o", 0, 1), ("run", "b"))))
        program = main(("call", "outer", deed("m", 1, 0)), outer, inner)
        self.check(program, 0, (), words=("i", "o", "m"), mode=1, steps=9, state="ended")

    def test_a_block_that_is_handed_on_as_a_run(self):
        outer = Procedure("outer", BLOCK, ("call", "twice", ("run", "b")))
        program = main(("call", "outer", FLIP), outer, TWICE)
        # call, call, seq, and twice: run, run, do
        self.check(program, 0, (), words=("flip", "flip"), mode=0, steps=9, state="ended")

    def test_with(self):
        around = Procedure("around", (("x", "block"), ("y", "block")), ("seq", ("run", "x"), ("run", "y"), ("run", "x")))
        program = main(("wrap", ("with", "around", deed("x", 0, 1)), deed("y", 1, 0)), around)
        # wrap, seq, and three times: run, do
        self.check(program, 0, (), words=("x", "y", "x"), mode=1, steps=8, state="ended")

    def test_own(self):
        self.check(LOCKS, 0, (0,), words=("lock", "work", "unlock"), mode=0, steps=8, state="ended")
        self.check(LOCKS, 0, (1, 0), words=("lock",), mode=1, state="stuck")
        self.check(LOCKS, 0, (1, 1, 0), words=("lock",), mode=1, state="stuck")

    def test_wraps_of_wraps(self):
        count = Procedure("count", BLOCK, ("seq", deed("in", 0, 1), ("run", "b"), deed("out", 0, 1)))
        double = Procedure("double", (("w", "wrap"), ("b", "block")), (
            "wrap", ("own", "w"), ("wrap", ("own", "w"), ("run", "b"))))
        once = ("with", "count")
        for deep in range(4):
            program = main(("wrap", once, deed("m", 1, 0)), count, double)
            many = 2 ** deep
            self.check(program, 0, (), words=("in",) * many + ("m",) + ("out",) * many, mode=1, state="ended")
            once = ("with", "double", once)

    def test_a_wrap_that_is_handed_keeps_what_was_handed_to_it(self):
        around = Procedure("around", (("x", "block"), ("y", "block")), ("seq", ("run", "x"), ("run", "y")))
        user = Procedure("user", (("w", "wrap"), ("x", "block")), ("wrap", ("own", "w"), ("run", "x")))
        maker = Procedure("maker", BLOCK, ("call", "user", ("with", "around", ("run", "b")), deed("inner", 0, 1)))
        program = main(("call", "maker", deed("outer", 1, 0)), around, user, maker)
        self.check(program, 0, (), words=("outer", "inner"), mode=1, state="ended")

    def test_calls_of_itself(self):
        self.check(LOOP, 0, (), until="tick", words=("tick",), steps=2, state="done", mode=0)

    def test_choices_are_made_anew_each_time(self):
        twice_twice = main(("call", "twice", ("call", "twice", ("or", FLIP, DONE))), TWICE)
        self.check(twice_twice, 0, (0, 1, 1, 1), words=("flip",), mode=1, state="ended")
        self.check(twice_twice, 0, (0, 0, 1, 0), words=("flip",) * 3, mode=1, state="ended")


class UntilTest(RunTest):
    def test_the_run_stops_behind_the_word(self):
        program = main(("seq", deed("a", 1, 0), deed("b", 1, 0), deed("b", 1, 0), deed("c", 1, 0)))
        self.check(program, 0, (), until="a", state="done", mode=1, words=("a",), steps=2)
        self.check(program, 0, (), until="b", state="done", mode=0, words=("a", "b"), steps=3)
        self.check(program, 0, (), until="c", state="done", mode=0, words=("a", "b", "b", "c"), steps=5)
        self.check(program, 0, (), until="d", state="ended", mode=0, words=("a", "b", "b", "c"), steps=5)

    def test_a_deed_that_is_not_done_does_not_count(self):
        program = main(("seq", deed("a", 1, None), deed("b", None, 0)))
        self.check(program, 1, (), until="a", state="stuck", mode=1, words=(), steps=2)
        self.check(program, 0, (), until="b", state="done", mode=0, words=("a", "b"), steps=3)

    def test_the_last_deed(self):
        self.check(main(deed("a", 1, 1)), 0, (), until="a", state="done", mode=1, steps=1)
        self.check(main(deed("a", 1, 1)), 0, (), until="b", state="ended", mode=1, steps=1)

    def test_waiting_ahead_of_the_word(self):
        self.check(LOCKS, 0, (), until="work", state="waiting", options=2, words=())
        self.check(LOCKS, 0, (0,), until="work", state="done", options=0, words=("lock", "work"), mode=1)
        self.check(LOCKS, 0, (1, 0), until="lock", state="done", words=("lock",))

    def test_done_at_the_last_choice(self):
        program = main(("seq", ("or", deed("a", 1, 1), DONE), ("or", deed("b", 0, 0), DONE)))
        self.check(program, 0, (0,), until="a", state="done", mode=1, words=("a",), steps=3, options=0)
        self.check(program, 0, (1, 0), until="b", state="done", mode=0, words=("b",), steps=5)
        self.check_error(InvalidOperation, program, 0, (0, 0), until="a")
        self.check(program, 0, (0, 0), until="b", state="done", words=("a", "b"))
        self.check(program, 0, (0, 0), until=None, state="ended", words=("a", "b"))

    def test_words_of_any_name(self):
        self.check(FLIPS, 0, (0, 0), until="abcdefgh", state="ended")
        self.check(FLIPS, 0, (0, 0), until="main", state="ended")


class LongTest(RunTest):
    def test_constant(self):
        self.assert_same(MAX_STEPS, 1000)

    def test_runs_that_end_behind_999_1000_and_1001_steps(self):
        for steps in (963, 998, 999, 1000):
            self.check(stretched(steps), 1, (), state="ended", steps=steps, mode=1)
        self.check_error(TooMany, stretched(1001), 0, (), limit=1000)

    def test_one_more_term(self):
        for steps in (998, 999):
            self.check(stretched(steps, deed("go", 1, None)), 0, (), state="ended", steps=steps + 1, mode=1)
            self.check(stretched(steps, deed("go", 1, None)), 1, (), state="stuck", steps=steps + 1, mode=1)
            self.check(stretched(steps, deed("go", 1, None)), 0, (), until="go", state="done", steps=steps + 1)
        for term in (DONE, deed("go", 1, None), ("call", "rest"), ("seq", deed("go", 1, 1))):
            for start in (0, 1):
                self.check_error(TooMany, stretched(1000, term), start, (), limit=1000)
                self.check_error(TooMany, stretched(1000, term), start, (), until="go", limit=1000)

    def test_or_behind_1000_steps(self):
        choice = ("or", DONE, deed("go", 1, 1))
        self.check(stretched(1000, choice), 0, (), state="waiting", steps=1000, options=2)
        for chosen in (0, 1, 2, 7):
            self.check_error(TooMany, stretched(1000, choice), 0, (chosen,), limit=1000)
            self.check_error(TooMany, stretched(1000, choice), 0, (chosen, 0), limit=1000)

    def test_or_behind_999_and_998_steps(self):
        choice = ("or", DONE, deed("go", 1, 1))
        self.check(stretched(999, choice), 0, (), state="waiting", steps=999, options=2)
        # The step of the choice itself is the last one; no term is left that waits.
        self.check_error(TooMany, stretched(999, choice), 0, (0,), limit=1000)
        self.check_error(InvalidOperation, stretched(999, choice), 0, (2,))
        self.check(stretched(998, choice), 0, (1,), state="ended", steps=1000, mode=1)
        self.check(stretched(998, choice), 0, (1,), until="go", state="done", steps=1000, mode=1)
        self.check(stretched(999, ("or", ("or", DONE))), 0, (0,), state="waiting", steps=1000, options=1)

    def test_choices_left_behind_1000_steps(self):
        self.check_error(InvalidOperation, stretched(1000), 0, (0,))
        self.check_error(InvalidOperation, stretched(1000), 0, (0,), until="go")
        self.check_error(TooMany, stretched(1001), 0, (0,), limit=1000)
        self.check_error(TooMany, stretched(1000, DONE), 0, (0, 0), limit=1000)

    def test_runs_that_go_on_for_ever(self):
        self.check_error(TooMany, LOOP, 0, (), limit=1000)
        self.check_error(TooMany, LOOP, 0, (), until="tock", limit=1000)
        self.check_error(TooMany, LOOP, 0, (0, 5), limit=1000)
        self.check_error(TooMany, main(("call", "main")), 1, (), limit=1000)
        endless = Procedure("endless", BLOCK, ("call", "endless", ("seq", ("run", "b"), ("run", "b"))))
        self.check_error(TooMany, main(("call", "endless", DONE), endless), 1, (), limit=1000)

    def test_many_choices(self):
        program = main(("or", ("call", "main"), DONE))
        self.check(program, 0, (0,) * 499 + (1,), state="ended", steps=1000)
        self.check(program, 0, (0,) * 500, state="waiting", steps=1000, options=2)
        self.check_error(TooMany, program, 0, (0,) * 500 + (1,), limit=1000)
        self.check_error(TooMany, program, 0, (0,) * 5000, limit=1000)
        self.check_error(InvalidOperation, program, 0, (0,) * 499 + (1, 1))
        self.check_error(InvalidOperation, program, 0, (0,) * 499 + (2,))


class ErrorsTest(RunTest):
    def test_no_program(self):
        for value in anything():
            if value not in (FLIPS, LOCKS):
                self.check_error(InvalidProgram, value, 0, ())
        self.check_error(InvalidProgram, TWICE, 7, (-1,), until=5)

    def test_no_mode(self):
        for value in anything():
            if picture(value) not in [picture(mode) for mode in (0, 1)]:
                self.check_error(InvalidNumber, FLIPS, value, (), value=value)
                self.check_error(InvalidNumber, FLIPS, value, ("x",), until=5, value=value)
        self.check_error(InvalidNumber, LOOP, 1, (), value=1)

    def test_wrong_choices(self):
        for value in anything():
            if not (isinstance(value, int) and not isinstance(value, bool) and value >= 0):
                self.check_error(InvalidOperation, FLIPS, 0, (value,))
                self.check_error(InvalidOperation, FLIPS, 0, (0, value))
                self.check_error(InvalidOperation, FLIPS, 0, (0, 1, value))

    def test_wrong_choices_come_before_what_happens_on_the_way(self):
        self.check_error(InvalidOperation, LOOP, 0, (-1,))
        self.check_error(InvalidOperation, LOOP, 0, (0, None))
        self.check_error(InvalidOperation, LOOP, 0, (), until="No")

    def test_choices_that_are_no_indices(self):
        for choices in ((2,), (0, 2), (1, 10 ** 39), (0, 0, 0), (2, 0)):
            self.check_error(InvalidOperation, FLIPS, 0, choices)
        self.check_error(InvalidOperation, main(("or", DONE)), 0, (1,))

    def test_choices_that_are_left(self):
        self.check_error(InvalidOperation, FLIPS, 0, (0, 1, 0))
        self.check_error(InvalidOperation, main(DONE), 0, (0,))
        self.check_error(InvalidOperation, LOCKS, 0, (1, 0, 0))
        self.check_error(InvalidOperation, LOCKS, 0, (0, 0), until="lock")

    def test_wrong_until(self):
        for value in no_names():
            if value is not None:
                self.check_error(InvalidOperation, FLIPS, 0, (), until=value)
                self.check_error(InvalidOperation, LOOP, 0, (), until=value)

    def test_of_takes_tuples(self):
        for value in anything():
            if not isinstance(value, tuple):
                self.assert_raises(InvalidOperation, Run.of, FLIPS, 0, value)
                self.assert_raises(InvalidNumber, Run.of, FLIPS, 2, value, value=2)
                self.assert_raises(InvalidProgram, Run.of, None, 2, value)
                self.assert_raises(InvalidOperation, Run.of, LOOP, 0, value)
        self.assert_raises(InvalidOperation, Run.of, FLIPS, 0, [0, 1])


class ObjectsTest(RunTest):
    def test_chosen(self):
        run = Run(LOCKS, 0, until="unlock")
        before = picture(run)
        self.assert_same(run.chosen(), run)
        self.assert_same(run.chosen(0), Run(LOCKS, 0, 0, until="unlock"))
        self.assert_same(run.chosen(1, 0), Run(LOCKS, 0, 1, 0, until="unlock"))
        self.assert_same(run.chosen(1).chosen(1).chosen(0), Run(LOCKS, 0, 1, 1, 0, until="unlock"))
        self.assert_same(Run(FLIPS, 1, 0).chosen(1), Run(FLIPS, 1, 0, 1))
        self.assertEqual(picture(run), before)

    def test_chosen_with_errors(self):
        run = Run(FLIPS, 0, 0)
        before = picture(run)
        for value in (-1, 2, True, None, "0", (0,), [0], {}):
            self.assert_raises(InvalidOperation, run.chosen, value)
        self.assert_raises(InvalidOperation, run.chosen, 0, 0)
        self.assert_raises(InvalidOperation, Run(FLIPS, 0, 0, 1).chosen, 0)
        self.assert_raises(TooMany, Run(main(("or", ("call", "main"))), 0).chosen, *(0,) * 501, limit=1000)
        self.assertEqual(picture(run), before)

    def test_equality(self):
        run = Run(LOCKS, 0, 0, until="work")
        self.assert_equal_things(run, Run(Program(2, *LOCKS.procedures), 0, 0, until="work"))
        self.assert_equals_no_other(run, [
            Run(LOCKS, 1, 0, until="work"), Run(LOCKS, 0, 0), Run(LOCKS, 0, 1, 0, until="work"),
            Run(LOCKS, 0, 0, until="lock"), Run(LOCKS, 0, until="work"),
            Run(Program(2, *LOCKS.procedures[::-1]), 0, 0, until="work"), LOCKS])
        self.assert_equals_no_other(run, anything() + [run.choices, run.words, str(run), (run,)])
        self.assertIn(Run(FLIPS, 0), [run, Run(FLIPS, 0)])
        self.assertNotIn(Run(FLIPS, 1), [run, Run(FLIPS, 0), None])

    def test_texts(self):
        for run, text in (
                (Run(FLIPS, 0, 0, 1), "run by 2 choices, ended in 1"), (Run(FLIPS, 1), "run by 0 choices, waiting in 1"),
                (Run(LOCKS, 1, 0), "run by 1 choices, stuck in 1"),
                (Run(LOCKS, 0, 0, until="work"), "run by 1 choices, done in 1")):
            self.assert_same(str(run), text)

    def test_no_iteration(self):
        self.assert_not_iterable(Run(FLIPS, 0, 0))

    def test_where_all_is_defined(self):
        self.assertEqual(Run.__module__, "blockshanded.runs.runs")
        names = ("of", "program", "start", "choices", "until", "state", "mode", "words", "steps", "options", "chosen",
                 "__len__", "__eq__", "__str__")
        for name in names:
            self.assertIn(name, vars(Run))

    def test_random_runs_by_parts(self):
        for seed in range(60):
            program = random_program(seed)
            for start in range(program.modes):
                try:
                    self.check_by_parts(program, start)
                except TooMany:
                    pass

    def check_by_parts(self, program, start):
        """A run that waits goes on with the first or the last term, and all its properties fit."""
        run = Run(program, start)
        for count in range(8):
            self.assertEqual(run.state == "waiting", run.options > 0)
            if run.state != "waiting":
                self.assert_raises(InvalidOperation, run.chosen, 0)
                return
            longer = run.chosen((run.options - 1) * (count % 2))
            self.assert_same(longer, Run(program, start, *longer.choices))
            self.assertEqual(longer.words[:len(run.words)], run.words)
            self.assertGreater(longer.steps, run.steps)
            self.assert_raises(InvalidOperation, run.chosen, run.options)
            for word in set(longer.words[len(run.words):]) - set(run.words):
                stopped = Run(program, start, *longer.choices, until=word)
                self.assertEqual((stopped.state, stopped.words[-1]), ("done", word))
                self.assertEqual(stopped.words, longer.words[:longer.words.index(word) + 1])
            run = longer


class ExamplesTest(PromiseTest):
    def test_first_example(self):
        self.assert_same(
            [Run(FLIPS, 0).state, Run(FLIPS, 0).options, Run(FLIPS, 0, 0, 1).mode, Run(FLIPS, 0, 0, 0).words,
             Run(FLIPS, 0, 0, 1).steps, str(Run(FLIPS, 1, 1, 0))],
            ["waiting", 2, 1, ("flip", "flip"), 8, "run by 2 choices, ended in 0"])

    def test_second_example(self):
        self.assert_same(
            [Run(LOCKS, 0, 0).words, Run(LOCKS, 0, 1, 0).state, Run(LOCKS, 0, 1, 0).words, Run(LOCKS, 1, 0).state,
             Run(LOCKS, 0).chosen(0) == Run(LOCKS, 0, 0), Run(LOCKS, 0, 0, until="work").words],
            [("lock", "work", "unlock"), "stuck", ("lock",), "stuck", True, ("lock", "work")])


if __name__ == "__main__":
    unittest.main()
