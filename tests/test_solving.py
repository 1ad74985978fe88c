"""How true relations are found, and how it is seen that too many contexts are needed: [0.13], "Stage 8"."""

import unittest
from unittest import mock

from blockshanded.base.procedures import Procedure
from blockshanded.base.programs import Program
from blockshanded.errors import TooMany
from blockshanded.mean import solving as solving_module
from blockshanded.mean.books import book_of, true_relation
from blockshanded.mean.ledgers import Ledger
from blockshanded.mean.plans import plan_of
from blockshanded.mean.readings import Reading
from blockshanded.mean.solving import Solving
from blockshanded.mean.tallies import Tally
from tests.crowds import flood, lesser_crowd
from tests.random_programs import random_program
from tests.samples import FLIPS, LOCKS, PromiseTest
from tests.slowly import Slow

DONE = ("seq",)
MAIN = ("main", ())
WRAP = (("w", "wrap"),)


class Readings:
    """Counts how often bodies are reckoned."""

    def __init__(self):
        self.many = 0

    def reading(self, ledger, context, told):
        self.many += 1
        return Reading(ledger, context, told)


def solved_within(program, word, limit):
    """The relations that are found with this limit, or None if there are more contexts."""
    try:
        solving = Solving(plan_of(program, word), MAIN, limit)
    except TooMany as error:
        assert error.limit == limit
        return None
    return {solving.ledger.told(number): solving.meaning_now(number) for number in solving.contexts_needed()}


class LimitsTest(PromiseTest):
    def check(self, program, word, most=400):
        """With each limit just what is needed in the end counts; whether more is needed on the way."""
        explored = Slow(program, word).explored(limit=most)
        if explored is None:
            return False
        book = Slow(program, word).book(limit=most)
        self.assertEqual(solved_within(program, word, len(book)), book)
        for limit in {0, len(book) // 2, len(book) - 2, len(book) - 1}:
            if 0 <= limit < len(book):
                self.assertIsNone(solved_within(program, word, limit))
        return len(explored[0]) > len(book)

    def test_random_programs(self):
        more = 0
        for seed in range(400):
            for word in (None, "a"):
                with self.subTest(seed=seed, word=word):
                    more += self.check(random_program(seed), word)
        self.assertGreater(more, 60)

    def test_programs_that_need_more_by_lesser_relations(self):
        for many in (1, 2):
            for late in (1, 2, 3):
                self.assertIs(self.check(lesser_crowd(many, late), None, most=1000), True)

    def test_what_may_still_grow_is_not_counted(self):
        # By lesser relations each of the five tells other ones apart, and it takes long until all pairs are found.
        for many in (3, 6):
            for late in (1, 2, 3):
                program = lesser_crowd(many, late)
                book = Slow(program).book(limit=3000)
                self.assertEqual(solved_within(program, None, len(book)), book)
                self.assertIsNone(solved_within(program, None, len(book) - 1))

    def test_a_row_of_which_nothing_is_known_yet(self):
        # The first table that comes up is not that of the wrap that is handed.
        user = Procedure("user", WRAP, ("wrap", ("own", "w"), DONE))
        stuck = Procedure("stuck", (("b", "block"),), ("do", "never", (None, None)))
        begin = Procedure("begin", WRAP, ("call", "user", ("with", "stuck")))
        program = Program(2, Procedure("main", (), DONE), user, stuck, begin)
        for table in (tuple(range(16)), (15,) * 16, (0,) * 16):
            self.assert_same(true_relation(program, ("begin", (table,))), 0)
            self.assert_same(true_relation(program, ("user", (table,))), table[9])


class EffortTest(PromiseTest):
    def count(self, program, word=None):
        """How often bodies are reckoned until there are too many contexts."""
        readings = Readings()
        with mock.patch.object(solving_module, "Reading", readings.reading):
            self.assert_raises(TooMany, book_of, program, by_keyword={"word": word}, limit=800)
        return readings.many

    def test_too_many_is_seen_early(self):
        late = ("call", "main")
        for blocks in ((DONE, DONE, DONE), (late, late, late), (late, DONE, late), (DONE, late, DONE)):
            self.assertLess(self.count(flood(*blocks)), 20000)
            # There are more than 200 000 contexts then.
            self.assertLess(self.count(flood(*blocks), "other"), 20000)

    def test_few_readings_for_small_books(self):
        for program in (FLIPS, LOCKS, lesser_crowd(1, 1)):
            readings = Readings()
            with mock.patch.object(solving_module, "Reading", readings.reading):
                book = book_of(program)
            self.assertLess(readings.many, 20 * len(book))

    def test_giving_up(self):
        with mock.patch.object(solving_module, "MAX_READINGS", 100):
            self.assert_raises(TooMany, book_of, lesser_crowd(3, 3), limit=800)
            self.assert_same(book_of(FLIPS), {MAIN: 15, ("twice", (15,)): 15})
        self.assert_same(book_of(lesser_crowd(3, 3)), Slow(lesser_crowd(3, 3)).book())


class TallyTest(PromiseTest):
    def setUp(self):
        blocks = (("x", "block"), ("y", "block"), ("z", "block"))
        program = Program(2, Procedure("main", (), DONE), Procedure("p", blocks, DONE), Procedure("q", blocks, DONE))
        self.ledger = Ledger(plan_of(program, None))
        self.tally = Tally(self.ledger)

    def note(self, name, least, greatest):
        self.tally.note(self.ledger.number_of_told((name, least)), self.ledger.number_of_told((name, greatest)))

    def test_contexts_that_are_known(self):
        for relation in (3, 5, 7, 5):
            self.note("p", (relation, 1, 2), (relation, 1, 2))
        self.assertEqual(self.tally.many_different(), 3)
        self.note("q", (3, 1, 2), (3, 1, 2))
        self.assertEqual(self.tally.many_different(), 4)

    def test_contexts_that_may_be_the_same(self):
        self.note("p", (0, 1, 2), (15, 1, 2))
        self.note("p", (1, 1, 2), (15, 1, 2))
        self.note("p", (3, 1, 2), (3, 1, 2))
        self.assertEqual(self.tally.many_different(), 1)
        self.note("p", (7, 1, 2), (7, 1, 2))
        self.assertEqual(self.tally.many_different(), 2)

    def test_contexts_that_differ_where_they_are_known(self):
        for relation in range(10):
            self.note("p", (0, relation, 0), (15, relation, 15))
        self.assertEqual(self.tally.many_different(), 10)
        for relation in range(12):
            self.note("p", (0, 5, relation), (15, 5, relation))
        # The places where both kinds are known tell less apart than one kind alone.
        self.assertEqual(self.tally.many_different(), 12)

    def test_nothing_is_known(self):
        for relation in range(8):
            self.note("p", (relation, relation, relation), (15, 15, 15))
        self.assertEqual(self.tally.many_different(), 1)

    def test_each_pair_is_given_once(self):
        self.note("p", (1, 1, 1), (1, 1, 1))
        self.note("p", (1, 1, 1), (1, 1, 1))
        self.assertIs(self.tally.is_finished(1), False)
        self.tally.next_pair()
        self.assertIs(self.tally.is_finished(1), True)
        self.note("p", (1, 1, 1), (1, 1, 1))
        self.assertIs(self.tally.is_finished(1), True)
        self.assertEqual(self.tally.many_different(), 1)

    def test_more_than_the_limit(self):
        for relation in range(4):
            self.note("p", (relation, 0, 0), (relation, 0, 0))
        self.assertIs(self.tally.is_finished(3), True)
        self.assertIs(self.tally.is_finished(4), False)


if __name__ == "__main__":
    unittest.main()
