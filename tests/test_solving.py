"""How true relations are found, and how it is seen that too many contexts are needed: [0.13], "Stage 8"."""

import unittest
from unittest import mock

from blockshanded.ask.tracing import traced_choices
from blockshanded.base.procedures import Procedure
from blockshanded.base.programs import Program
from blockshanded.errors import TooMany
from blockshanded.mean import solving as solving_module
from blockshanded.mean.books import book_of, true_relation
from blockshanded.mean.demands import Usage
from blockshanded.mean.ledgers import Ledger
from blockshanded.mean.plans import plan_of
from blockshanded.mean.queues import Queues
from blockshanded.mean.relating import relation_solving
from blockshanded.mean.solving import Solving
from blockshanded.mean.tallies import Tally
from blockshanded.runs.runs import Run
from blockshanded.text.texts import read_program
from tests.crowds import flood, lesser_crowd
from tests.random_programs import random_program
from tests.samples import FLIPS, LOCKS, PromiseTest
from tests.slowly import Slow

DONE = ("seq",)
MAIN = ("main", ())
WRAP = (("w", "wrap"),)


def solving_of(program, word=None, limit=800):
    """How the relations are found that main needs, and the number of main, with nothing found yet."""
    solving = relation_solving(plan_of(program, word), limit)
    return solving, solving.ledger.number_of_told(MAIN)


def told_book(solving, roots):
    """The dict of what was found for all that some contexts need."""
    found = {solving.ledger.told(number): solving.findings.current[number] for number in solving.contexts_from(roots)}
    return {context: found[context] for context in sorted(found)}


def solved_within(program, word, limit):
    """The relations that are found with this limit, or None if there are more contexts."""
    solving, root = solving_of(program, word, limit)
    try:
        solving.solve([root])
    except TooMany as error:
        assert error.limit == limit
        return None
    return told_book(solving, [root])


def giving_up(at):
    """Has what is found at once be given up when so much has been opened, so that it goes on patiently."""
    def look(solving):
        if solving._has_replaced:
            solving._drop_unneeded()
        solving._is_broad = solving._is_hopeless = True
    return mock.patch.multiple(solving_module, OPENED_BETWEEN_LOOKS=at), mock.patch.object(Solving, "_look", look)


def in_breadth(at, step):
    """Has it go on in breadth when so much has been opened, and drop what is not needed after each step."""
    def look(solving):
        if solving._has_replaced:
            solving._drop_unneeded()
        solving._next_look = len(solving._opened) + step
        solving._is_broad = len(solving._opened) >= at
    return mock.patch.multiple(solving_module, OPENED_BETWEEN_LOOKS=step), mock.patch.object(Solving, "_look", look)


def check_runs(test, program, word, solving, relation):
    """For each pair of the relation of main a run is told that is right."""
    many = program.modes + (word is not None)
    for start in range(program.modes):
        for end in range(program.modes) if word is None else (program.modes,):
            if relation >> (start * many + end) & 1:
                run = Run(program, start, *traced_choices(solving, start, end, 1000), until=word)
                test.assertEqual((run.state, run.mode) if word is None else run.state,
                                 ("ended", end) if word is None else "done")


class LimitsTest(PromiseTest):
    def check(self, program, word, most=400):
        """With each limit just what is needed in the end counts; whether more is needed on the way."""
        explored = Slow(program, word).explored(limit=most)
        if explored is None:
            return False
        book = Slow(program, word).book(limit=most)
        self.assertEqual(solved_within(program, word, len(book)), book)
        for limit in {0, len(book) // 2, len(book) - 2, len(book) - 1}:
            if 0 <= limit < len(book):
                self.assertIsNone(solved_within(program, word, limit))
        return len(explored[0]) > len(book)

    def test_random_programs(self):
        more = 0
        for seed in range(400):
            for word in (None, "a"):
                with self.subTest(seed=seed, word=word):
                    more += self.check(random_program(seed), word)
        self.assertGreater(more, 60)

    def test_programs_that_need_more_by_lesser_relations(self):
        for many in (1, 2):
            for late in (1, 2, 3):
                self.assertIs(self.check(lesser_crowd(many, late), None, most=1000), True)

    def test_what_may_still_grow_is_not_counted(self):
        # By lesser relations each of the five tells other ones apart, and it takes long until all pairs are found.
        for many in (3, 6):
            for late in (1, 2, 3):
                program = lesser_crowd(many, late)
                book = Slow(program).book(limit=3000)
                self.assertEqual(solved_within(program, None, len(book)), book)
                self.assertIsNone(solved_within(program, None, len(book) - 1))

    def test_a_row_of_which_nothing_is_known_yet(self):
        # The first table that comes up is not that of the wrap that is handed.
        user = Procedure("user", WRAP, ("wrap", ("own", "w"), DONE))
        stuck = Procedure("stuck", (("b", "block"),), ("do", "never", (None, None)))
        begin = Procedure("begin", WRAP, ("call", "user", ("with", "stuck")))
        program = Program(2, Procedure("main", (), DONE), user, stuck, begin)
        for table in (tuple(range(16)), (15,) * 16, (0,) * 16):
            self.assert_same(true_relation(program, ("begin", (table,))), 0)
            self.assert_same(true_relation(program, ("user", (table,))), table[9])


class PatienceTest(PromiseTest):
    """What is found if it does not go on at once."""

    def check(self, program, word, at, limit=300):
        """The book and the runs are right if it goes on patiently; whether it did so."""
        wanted = Slow(program, word).book(limit=limit)
        if wanted is None:
            return False
        many, look = giving_up(at)
        solving, root = solving_of(program, word)
        with many, look:
            solving.solve([root])
            asked = len(solving._opened) >= at
        self.assertEqual(told_book(solving, [root]), wanted)
        check_runs(self, program, word, solving, wanted[MAIN])
        return asked

    def test_random_programs(self):
        patient = 0
        for seed in range(250):
            for word in (None, "a"):
                for at in (1, 3, 6, 12):
                    with self.subTest(seed=seed, word=word, at=at):
                        patient += self.check(random_program(seed), word, at)
        self.assertGreater(patient, 500)

    def test_programs_that_need_more_by_lesser_relations(self):
        for many in (1, 2):
            for late in (1, 3):
                for at in (1, 5, 10):
                    self.assertIs(self.check(lesser_crowd(many, late), None, at, 1000), True)

    def test_what_was_found_before_stays(self):
        many, look = giving_up(5)
        for program in (LOCKS, lesser_crowd(1, 2)):
            solving, root = solving_of(program)
            wanted = Slow(program).book()
            contexts = [context for context in wanted if context != MAIN][::7]
            for context in contexts:
                number = solving.ledger.number_of_told(context)
                with many, look:
                    solving.solve([number])
                self.assertEqual(told_book(solving, [number]), Slow(program).book(root=context))
            solving.solve([root])
            self.assertEqual(told_book(solving, [root]), wanted)

    def test_too_many_is_seen_patiently(self):
        many, look = giving_up(50)
        late = ("call", "main")
        for blocks in ((DONE, DONE, DONE), (late, late, late), (late, DONE, late)):
            for word in (None, "other"):
                with many, look:
                    self.assert_raises(TooMany, book_of, flood(*blocks), by_keyword={"word": word}, limit=800)


class BreadthTest(PromiseTest):
    """What is found if it goes on in breadth, from some time on."""

    def check(self, program, word, at, step, limit=300):
        """The book and the runs are right; whether it went on in breadth."""
        wanted = Slow(program, word).book(limit=limit)
        if wanted is None:
            return False
        many, look = in_breadth(at, step)
        solving, root = solving_of(program, word)
        with many, look:
            solving.solve([root])
        self.assertEqual(told_book(solving, [root]), wanted)
        check_runs(self, program, word, solving, wanted[MAIN])
        return solving._is_broad

    def test_random_programs(self):
        broad = 0
        for seed in range(250):
            for word in (None, "a"):
                for at, step in ((1, 1), (3, 2), (8, 3), (20, 1)):
                    with self.subTest(seed=seed, word=word, at=at):
                        broad += self.check(random_program(seed), word, at, step)
        self.assertGreater(broad, 500)

    def test_programs_that_need_more_by_lesser_relations(self):
        for many in (1, 2):
            for late in (1, 3):
                for at in (1, 10, 50):
                    self.assertIs(self.check(lesser_crowd(many, late), None, at, 5, 1000), True)

    def test_too_many_is_seen_in_breadth(self):
        late = ("call", "main")
        with mock.patch.object(solving_module, "OPENED_IN_DEPTH", 0):
            for blocks in ((DONE, DONE, DONE), (late, late, late), (late, DONE, late)):
                for word in (None, "other"):
                    self.assert_raises(TooMany, book_of, flood(*blocks), by_keyword={"word": word}, limit=800)


class SeveralRootsTest(PromiseTest):
    def test_books_from_several_contexts_on(self):
        for seed in range(150):
            program = random_program(seed)
            book = Slow(program).book(limit=300)
            if book is None:
                continue
            roots = [context for context in book][:: 1 + len(book) // 4]
            wanted = {}
            for root in roots:
                wanted.update(Slow(program).book(root=root))
            solving, _ = solving_of(program)
            numbers = [solving.ledger.number_of_told(root) for root in roots]
            solving.solve(numbers)
            self.assertEqual(told_book(solving, numbers), dict(sorted(wanted.items())))
            strict, _ = solving_of(program, limit=len(wanted) - 1)
            numbers = [strict.ledger.number_of_told(root) for root in roots]
            self.assert_raises(TooMany, strict.solve, numbers, limit=len(wanted) - 1)

    def test_each_is_counted_from_itself_on(self):
        program = read_program("program 3\nproc main : (seq (call p) (call q))\nproc p : do a 0 - -\nproc q : do a - 1 -")
        solving, root = solving_of(program, limit=1)
        for name in "pq":
            solving.solve([solving.ledger.number_of_told((name, ()))])
        self.assert_raises(TooMany, solving.solve, [root], limit=1)


class EffortTest(PromiseTest):
    def test_too_many_is_seen_early(self):
        late = ("call", "main")
        for blocks in ((DONE, DONE, DONE), (late, late, late), (late, DONE, late), (DONE, late, DONE)):
            # There are more than 200 000 contexts if a word is watched.
            for word in (None, "other"):
                solving, root = solving_of(flood(*blocks), word)
                self.assert_raises(TooMany, solving.solve, [root], limit=800)
                self.assertLess(len(solving.ledger.entries), 60000)

    def test_little_more_than_what_is_needed_for_small_books(self):
        for program in (FLIPS, LOCKS, lesser_crowd(1, 1)):
            solving, root = solving_of(program)
            solving.solve([root])
            self.assertLess(len(solving.ledger.entries), 3 * len(solving.contexts_from([root])) + 5)


class UsageTest(PromiseTest):
    def used(self, *lines, word=None):
        """For each procedure but main the names of the parameters that are used, in one word."""
        program = read_program("\n".join(lines))
        usage = Usage(plan_of(program, word))
        return [" ".join(usage.used_of(number, [name for name, _ in procedure.parameters]))
                for number, procedure in enumerate(program.procedures)][1:]

    def test_what_is_run(self):
        self.assertEqual(self.used("program 1", "proc main : (seq)", "proc p x block y block : (or (seq) (run y))"), ["y"])
        self.assertEqual(self.used("program 1", "proc main : (seq)", "proc p x wrap y wrap : (wrap (own x) (seq))"), ["x"])

    def test_what_is_handed_on(self):
        handing = ["program 1", "proc main : (seq)", "proc p x block y block : (call q (run y) (run x))"]
        self.assertEqual(self.used(*handing, "proc q x block y block : (run x)".replace("(run x)", "run x")), ["y", "x"])
        self.assertEqual(self.used(*handing, "proc q x block y block : (call p (run x) (run y))"), ["", ""])
        self.assertEqual(self.used(*handing, "proc q x block y block : (call p (run x) (run x))"), ["", ""])
        self.assertEqual(self.used(*handing, "proc q x block y block : (or (run x) (call p (run x) (run y)))"), ["x y", "x y"])

    def test_what_is_handed_in_wraps(self):
        lines = ["program 1", "proc main : (seq)", "proc p x wrap y block : (wrap (with q (own x)) (run y))"]
        self.assertEqual(self.used(*lines, "proc q x wrap y block : run y"), ["y", "y"])
        self.assertEqual(self.used(*lines, "proc q x wrap y block : (wrap (own x) (seq))"), ["x", "x"])

    def test_what_never_comes_to_an_end(self):
        lines = ["program 1", "proc main : (seq)", "proc p x block y block : (or (run x) (seq (run y) (or (do a -) (do b -))))"]
        self.assertEqual(self.used(*lines), ["x"])
        self.assertEqual(self.used(*lines, word="a"), ["x y"])
        first = ["program 1", "proc main : (seq)", "proc p x block y block : (or (run x) (seq (do a -) (run y)))"]
        self.assertEqual(self.used(*first), ["x"])
        self.assertEqual(self.used(*first, word="a"), ["x"])


class QueuesTest(PromiseTest):
    def taken(self, queues, many, effort):
        """The numbers that are taken; `effort` tells how much each of a procedure takes."""
        numbers = []
        for _ in range(many):
            procedure, number = queues.taken()
            queues.note_effort(procedure, effort[procedure])
            numbers.append(number)
        return numbers

    def test_turns(self):
        queues = Queues()
        queues.refill([(0, 1), (0, 2), (0, 3), (0, 4)])
        self.assertEqual(self.taken(queues, 4, {0: 1}), [1, 4, 2, 3])
        self.assertIsNone(queues.taken())

    def test_all_procedures_have_their_turn(self):
        queues = Queues()
        queues.refill([(0, number) for number in range(100)] + [(1, 100), (1, 101)])
        self.assertLessEqual({100, 101}, set(self.taken(queues, 4, {0: 1, 1: 1})))
        self.assertLess(max(self.taken(queues, 50, {0: 1, 1: 1})), 100)
        queues.line_up(1, 102)
        self.assertIn(102, self.taken(queues, 2, {0: 1, 1: 1}))

    def test_by_effort(self):
        queues = Queues()
        queues.refill([(0, number) for number in range(100)] + [(1, number) for number in range(100, 200)])
        numbers = self.taken(queues, 40, {0: 3, 1: 1})
        self.assertEqual(len([number for number in numbers if number < 100]), 10)

    def test_what_comes_late_does_not_catch_up(self):
        queues = Queues()
        queues.refill([(0, number) for number in range(100)])
        self.taken(queues, 50, {0: 1})
        for number in range(100, 200):
            queues.line_up(1, number)
        numbers = self.taken(queues, 20, {0: 1, 1: 1})
        self.assertEqual(len([number for number in numbers if number < 100]), 10)


class TallyTest(PromiseTest):
    def setUp(self):
        blocks = (("x", "block"), ("y", "block"), ("z", "block"))
        program = Program(2, Procedure("main", (), DONE), Procedure("p", blocks, DONE), Procedure("q", blocks, DONE))
        self.ledger = Ledger(plan_of(program, None))
        self.tally = Tally(self.ledger)

    def note(self, name, least, greatest):
        self.tally.note(self.ledger.number_of_told((name, least)), self.ledger.number_of_told((name, greatest)))

    def test_contexts_that_are_known(self):
        for relation in (3, 5, 7, 5):
            self.note("p", (relation, 1, 2), (relation, 1, 2))
        self.assertEqual(self.tally.many_different(), 3)
        self.note("q", (3, 1, 2), (3, 1, 2))
        self.assertEqual(self.tally.many_different(), 4)

    def test_contexts_that_may_be_the_same(self):
        self.note("p", (0, 1, 2), (15, 1, 2))
        self.note("p", (1, 1, 2), (15, 1, 2))
        self.note("p", (3, 1, 2), (3, 1, 2))
        self.assertEqual(self.tally.many_different(), 1)
        self.note("p", (7, 1, 2), (7, 1, 2))
        self.assertEqual(self.tally.many_different(), 2)

    def test_contexts_that_differ_where_they_are_known(self):
        for relation in range(10):
            self.note("p", (0, relation, 0), (15, relation, 15))
        self.assertEqual(self.tally.many_different(), 10)
        for relation in range(12):
            self.note("p", (0, 5, relation), (15, 5, relation))
        # The places where both kinds are known tell less apart than one kind alone.
        self.assertEqual(self.tally.many_different(), 12)

    def test_nothing_is_known(self):
        for relation in range(8):
            self.note("p", (relation, relation, relation), (15, 15, 15))
        self.assertEqual(self.tally.many_different(), 1)

    def test_each_pair_is_given_once(self):
        self.note("p", (1, 1, 1), (1, 1, 1))
        self.note("p", (1, 1, 1), (1, 1, 1))
        self.assertIs(self.tally.is_finished(1), False)
        self.tally.next_pair()
        self.assertIs(self.tally.is_finished(1), True)
        self.note("p", (1, 1, 1), (1, 1, 1))
        self.assertIs(self.tally.is_finished(1), True)
        self.assertEqual(self.tally.many_different(), 1)

    def test_more_than_the_limit(self):
        for relation in range(4):
            self.note("p", (relation, 0, 0), (relation, 0, 0))
        self.assertIs(self.tally.is_finished(3), True)
        self.assertIs(self.tally.is_finished(4), False)


if __name__ == "__main__":
    unittest.main()
