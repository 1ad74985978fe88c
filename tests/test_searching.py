"""The two ways in which runs are found: [0.9], "Stage 9" and "Stage 10"."""

import unittest
from unittest import mock

from blockshanded.ask import shortest as shortest_module
from blockshanded.ask.ends import end_run
from blockshanded.ask.shortest import shortest_choices
from blockshanded.ask.tracing import traced_choices
from blockshanded.errors import TooMany
from blockshanded.mean.books import MAIN, root_relation, solved, solved_plan
from blockshanded.runs.runs import Run
from blockshanded.text.texts import read_program
from tests.long_runs import long_or_deep, long_way, wrapped_work
from tests.random_programs import random_program
from tests.samples import FLIP, FLIPS, LOCKS, PromiseTest


def questions(program, word):
    """The starts and the ends for which there is a run, and how the relations were found."""
    solving = solved(program, MAIN, word)
    many = solving.ledger.plan.many_ends
    last = [program.modes] if word is not None else range(program.modes)
    relation = root_relation(solving)
    return solving, [(start, end) for start in range(program.modes) for end in last
                     if relation >> (start * many + end) & 1]


def least_steps(program, start, end, word, choices=6):
    """The least number of steps of the runs with at most so many choices, or None."""
    found, layer = [], [Run(program, start, until=word)]
    for _ in range(choices + 1):
        for run in layer:
            if run.state == "done" or word is None and run.state == "ended" and run.mode == end:
                found.append(run.steps)
        waiting = [run for run in layer if run.state == "waiting"]
        layer = [run.chosen(index) for run in waiting for index in range(run.options)][:300]
    return min(found, default=None)


class SearchTest(PromiseTest):
    def check(self, program, word):
        """Both ways lead to runs that are right, the second one to shortest ones; the number of these."""
        solving, pairs = questions(program, word)
        for start, end in pairs:
            traced = self.check_run(program, start, end, word, traced_choices(solving, start, end, 1000))
            shortest = self.check_run(program, start, end, word, shortest_choices(solving, start, end, 1000))
            self.assertLessEqual(shortest.steps, traced.steps)
            try:
                least = least_steps(program, start, end, word)
            except TooMany:
                least = None
            if least is not None:
                self.assertLessEqual(shortest.steps, least)
            self.check_limits(solving, start, end, traced, shortest)
        return len(pairs)

    def check_run(self, program, start, end, word, choices):
        run = Run(program, start, *choices, until=word)
        if word is None:
            self.assertEqual((run.state, run.mode), ("ended", end))
        else:
            self.assertEqual(run.state, "done")
        return run

    def check_limits(self, solving, start, end, traced, shortest):
        """Just runs of so many steps are found."""
        for call, run in ((traced_choices, traced), (shortest_choices, shortest)):
            self.assertIsNone(call(solving, start, end, run.steps - 1))
            self.assertEqual(call(solving, start, end, run.steps), run.choices)

    def test_random_programs(self):
        many = 0
        for seed in range(160):
            for word in (None, "a"):
                with self.subTest(seed=seed, word=word):
                    try:
                        many += self.check(random_program(seed), word)
                    except TooMany as error:
                        self.assertEqual(error.limit, 800)
        self.assertGreater(many, 300)

    def test_programs_of_the_document_and_others(self):
        for program in (FLIPS, LOCKS, wrapped_work(), wrapped_work(("do", "last", (None, 0))), long_way(2, FLIP)):
            for word in (None,) + program.words:
                with self.subTest(program=str(program), word=word):
                    self.check(program, word)

    def test_the_second_way_is_taken_if_the_first_one_is_too_long(self):
        for calls in range(1, 6):
            program = long_or_deep(calls)
            solving, pairs = questions(program, None)
            self.assertIn((0, 1), pairs)
            self.assertIsNone(traced_choices(solving, 0, 1, 1000))
            self.assertEqual(shortest_choices(solving, 0, 1, 1000), (1,))

    def test_in_breadth_if_the_first_way_is_too_long(self):
        # The order in which relations are found in depth leads to runs of more than 1000 steps here.
        program = read_program("\n".join([
            "program 3",
            "proc main : (or (do a - - 0) (do c - - 0) (do c 1 - -) (seq (seq (do a - 1 2) (call q (do c - 2 0) (do c - - 0) (do a 1 "
            "- -)) (or (do c - - 0) (do a - - -)))) (wrap (with q (do a - - -) (seq (do a - 0 1))) (or (seq (do a - - 1) (do c - 1 -) "
            "(do a - 0 -)) (call q (do b - 0 -) (do c - - -) (do b 2 - -)))))",
            "proc p x block y block z block : (or (do b - - -) (call main) (run x))",
            "proc q x block y block z block : (or (run x) (seq (seq (call main) (call q (do b - 2 -) (run x) (run z)) (seq (run z))) "
            "(seq (wrap (with q (run y) (run z)) (do c 1 2 -))) (call main)) (run z) (call main))"]))
        solving, pairs = questions(program, None)
        for start, end in pairs:
            run = end_run(program, start, end)
            self.assertEqual((run.state, run.mode), ("ended", end))
        broad = solved_plan(solving.ledger.plan, MAIN, True)
        for start, end in pairs:
            self.check_run(program, start, end, None, traced_choices(broad, start, end, 1000))

    def test_too_many_places(self):
        program = long_or_deep(3)
        with mock.patch.object(shortest_module, "MAX_PLACES", 3):
            solving, _ = questions(program, None)
            self.assertIsNone(shortest_choices(solving, 0, 1, 1000))
            self.assert_raises(TooMany, end_run, program, 0, 1, limit=1000)
            self.assertEqual(end_run(FLIPS, 0, 0).mode, 0)
        self.assertEqual(end_run(program, 0, 1).choices, (1,))


if __name__ == "__main__":
    unittest.main()
