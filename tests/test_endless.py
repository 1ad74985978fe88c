"""Stage 18: what lasts, papers about it, and beginnings, [0.20] to [0.23]."""

import itertools
import random
import time
import unittest

from blockshanded.ask.ends import ends
from blockshanded.base.procedures import Procedure
from blockshanded.base.programs import Program
from blockshanded.errors import InvalidNumber, InvalidOperation, InvalidProgram, TooMany
from blockshanded.last import endless
from blockshanded.last.endless import (
    Beginning, can_last, endless_beginning, is_lasting_paper, lasting_book, lasting_modes, lasting_paper, true_lasting)
from blockshanded.last.meanings import asked_by, is_full_context, lasting_by
from blockshanded.mean.books import book_of
from blockshanded.runs.runs import Run
from tests.crowds import crowd, flood
from tests.lasting_programs import BLOCK, LASTING, ONCE, ONLY, SPIN, USE, WRAP
from tests.long_runs import DONE, main
from tests.random_programs import random_program
from tests.samples import (
    AGAIN, FLIP, FLIPS, GREATEST, LOCKED, LOCKS, LOOP, TWICE, PromiseTest, anything, picture)
from tests.slowly_lasting import SlowLasting
from tests.test_callers import LOCK_TABLE
from tests.test_full_contexts import LASTING_LOCK, LOCK, ZERO

MAIN = ("main", ())


def slow_book(program, limit=400):
    """The true lasting sets, found slowly; None if it is too much."""
    slow = SlowLasting(program, limit=500)
    return None if slow.slow.book(limit=500) is None else slow.book(limit=limit)


class LastingTest(PromiseTest):
    def check(self, program, wanted):
        """What lasts, by all functions that tell it."""
        self.assert_same(lasting_modes(program), wanted)
        for mode in range(program.modes):
            self.assertIs(can_last(program, mode), mode in wanted)
            paper = lasting_paper(program, mode)
            self.assertEqual(paper[0], "table" if mode in wanted else "ladder")
            self.assertIs(is_lasting_paper(program, mode, paper), True)
            self.check_beginnings(program, mode, mode in wanted)

    def check_beginnings(self, program, mode, does_last):
        for steps in (0, 1, 2, 9, 100, 1000):
            found = endless_beginning(program, mode, steps)
            if not does_last:
                self.assertIsNone(found)
                continue
            self.assertIs(type(found), Beginning)
            self.assert_same((found.program, found.start, found.steps), (program, mode, steps))
            self.assert_same(Beginning.of(program, mode, steps, found.choices), found)

    def test_named_programs(self):
        for name, (program, wanted) in LASTING.items():
            with self.subTest(name=name):
                self.check(program, wanted)
                self.assert_same(lasting_book(program), slow_book(program))

    def test_random_programs(self):
        many = {True: 0, False: 0}
        for seed in range(260):
            program = random_program(seed)
            book = slow_book(program)
            if book is None:
                continue
            with self.subTest(seed=seed):
                self.assert_same(lasting_book(program), book)
                wanted = tuple(mode for mode in range(program.modes) if book[MAIN] >> mode & 1)
                self.check(program, wanted)
                many[wanted == ()] += 1
        self.assertGreater(min(many.values()), 60)

    def test_by_runs_alone(self):
        """What lasts goes on as long as one likes; what does not, stops by all choices."""
        stopped = 0
        for seed in range(120):
            program = random_program(seed)
            try:
                lasting = lasting_modes(program)
            except TooMany:
                continue
            for mode in set(range(program.modes)) - set(lasting):
                layer = [Run(program, mode)]
                for _ in range(12):
                    waiting = [run for run in layer if run.state == "waiting"][:40]
                    layer = [run.chosen(index) for run in waiting for index in range(run.options)]
                    # With no choice left to be made, a run that does not last ends or is stuck before 1000 steps.
                    self.assertLessEqual({run.state for run in layer}, {"ended", "stuck", "waiting"})
                stopped += 1
        self.assertGreater(stopped, 80)

    def test_without_choices_just_one_of_three(self):
        # [0.23]: it ends in one mode, it is stuck, or it lasts.
        many = 0
        for seed in range(400):
            program = random_program(seed)
            text = repr([procedure.body for procedure in program.procedures])
            if "'or'" in text:
                continue
            try:
                lasting = lasting_modes(program)
            except TooMany:
                continue
            for mode in range(program.modes):
                many += 1
                found = ends(program, mode)
                self.assertLessEqual(len(found) + (mode in lasting), 1)
                if mode in lasting:
                    self.assertRaises(TooMany, Run, program, mode)
                elif found:
                    self.assertEqual(Run(program, mode).mode, found[0])
                else:
                    self.assertEqual(Run(program, mode).state, "stuck")
        self.assertGreater(many, 20)

    def test_what_can_end_and_last(self):
        # [0.24]: both is so from both modes.
        program = LASTING["ends too"][0]
        self.assert_same((ends(program, 0), ends(program, 1), lasting_modes(program)), ((1,), (0,), (0, 1)))

    def test_nothing_lasts_if_no_procedure_calls_itself(self):
        many = 0
        for seed in range(300):
            program = random_program(seed)
            reached, pending = {}, [(own.named, own.named) for own in program.procedures]
            while pending:
                begin, name = pending.pop()
                for other in program[name].uses:
                    if (begin, other) not in reached:
                        reached[(begin, other)] = True
                        pending.append((begin, other))
            if not any((name, name) in reached for name in program.names):
                many += 1
                self.assert_same(lasting_modes(program), ())
        self.assertGreater(many, 30)

    def test_errors(self):
        for value in anything():
            if value not in (FLIPS, LOCKS):
                self.assert_raises(InvalidProgram, can_last, value, 9)
                self.assert_raises(InvalidProgram, lasting_modes, value)
                self.assert_raises(InvalidProgram, lasting_book, value)
                self.assert_raises(InvalidProgram, lasting_paper, value, 9)
            if value not in (0, 1) or isinstance(value, bool):
                self.assert_raises(InvalidNumber, can_last, LOCKS, value, value=value)
                self.assert_raises(InvalidNumber, lasting_paper, LOCKS, value, value=value)
                self.assert_raises(InvalidNumber, can_last, crowd(9, 9), value, value=value)

    def test_where_all_is_defined(self):
        for name in ("can_last", "lasting_modes", "lasting_book", "true_lasting", "lasting_paper", "is_lasting_paper", "Beginning", "endless_beginning"):
            self.assertEqual(getattr(endless, name).__module__, "blockshanded.last.endless")


class BookTest(PromiseTest):
    def test_just_what_is_asked_for(self):
        for _, (program, _) in LASTING.items():
            book = lasting_book(program)
            self.assertEqual(list(book), sorted(book))
            asked = {MAIN}
            for context in book:
                self.assertIs(is_full_context(program, context), True)
                self.assert_same(lasting_by(program, context, book), book[context])
                asked.update(asked_by(program, context, book))
            self.assertEqual(asked, set(book))

    def test_true_lasting_sets_of_other_contexts(self):
        for relation in (0, 3, 6, 9, 15):
            for lasting in range(4):
                for program, name in ((FLIPS, "twice"), (LOCKS, "locked")):
                    context = (name, ((relation, lasting),))
                    self.assert_same(true_lasting(program, context), SlowLasting(program).book(root=context)[context])
        for wrap in (LOCK, (LOCK_TABLE, ZERO), (tuple(range(16)), (3,) * 64), ((15,) * 16, LASTING_LOCK)):
            for context in (("deep", (wrap,)), ("again", (wrap, (9, 2))), ("again", (wrap, (6, 3)))):
                self.assert_same(true_lasting(LOCKS, context), SlowLasting(LOCKS).book(root=context)[context])
        for program in (FLIPS, LOCKS, LOOP):
            book = lasting_book(program)
            for context in list(book)[::9]:
                self.assert_same(true_lasting(program, context), book[context])

    def test_lasting_tables_that_are_not_monotone(self):
        for lasting in (LASTING_LOCK[::-1], (1,) + (0,) * 63, (0,) * 62 + (1, 0), (3,) * 63 + (2,), (0, 1) + (0,) * 62):
            context = ("deep", ((LOCK_TABLE, lasting),))
            self.assertIs(is_full_context(LOCKS, context), True)
            self.assert_raises(InvalidOperation, true_lasting, LOCKS, context)
        # From the relation 0 to 1, and from a set to a greater one, entries may grow.
        grown = tuple(relation % 2 * (lasting // 2) for relation in range(16) for lasting in range(4))
        true_lasting(LOCKS, ("deep", ((LOCK_TABLE, grown),)))

    def test_a_greater_meaning_loses_no_mode(self):
        for program, name in ((FLIPS, "twice"), (LOCKS, "locked")):
            sets = {(relation, lasting): true_lasting(program, (name, ((relation, lasting),))) for relation in range(16) for lasting in range(4)}
            for (one, less), (other, more) in itertools.product(sets, repeat=2):
                if one | other == other and less | more == more:
                    self.assertEqual(sets[(one, less)] | sets[(other, more)], sets[(other, more)])

    def test_errors(self):
        for value in anything():
            if value not in (FLIPS, LOCKS):
                self.assert_raises(InvalidProgram, true_lasting, value, 5)
            self.assert_raises(InvalidOperation, true_lasting, FLIPS, value)
        for context in (("twice", (15,)), ("twice", ((15, 4),)), ("deep", ((LOCK_TABLE[::-1], ZERO),)), ("nowhere", ())):
            self.assert_raises(InvalidOperation, true_lasting, LOCKS if context[0] == "deep" else FLIPS, context)


class TooManyTest(PromiseTest):
    def test_plain_contexts(self):
        for program in (crowd(9, 9), crowd(4, 9), flood(DONE, DONE, DONE)):
            for call in (lasting_modes, lasting_book):
                self.assert_raises(TooMany, call, program, limit=800)
            for call in (can_last, lasting_paper):
                self.assert_raises(TooMany, call, program, 0, limit=800)
                self.assert_raises(InvalidNumber, call, program, 2, value=2)
            self.assert_raises(TooMany, endless_beginning, program, 0, 5, limit=800)
            self.assert_raises(TooMany, true_lasting, program, MAIN, limit=800)
            self.assert_raises(InvalidNumber, endless_beginning, program, 0, 1001, value=1001)
            self.assert_raises(InvalidOperation, true_lasting, program, None)

    def test_full_contexts_of_handed_wraps(self):
        deeds = [("do", "go", (one, other)) for one in (None, 0, 1) for other in (None, 0, 1)]
        pair = Procedure("pair", (("x", "block"), ("y", "block")), ("run", "y"))
        use = Procedure("use", WRAP, ("wrap", ("own", "w"), FLIP))
        # 64 contexts of "pair" for each wrap, one of "use" in all, and main.
        for many in (1, 5, 9):
            calls = tuple(("call", "use", ("with", "pair", deed)) for deed in deeds[:many])
            self.assertEqual(len(lasting_book(main(("or",) + calls, pair, use))), 64 * many + 2)

    def crowd(self, single, lasting):
        """A program with 770 full contexts and so many single ones, up to 30; if it is so, with far fewer plain ones."""
        relations = [("do", "a", tuple(e if m == mode else None for m in range(3))) for mode in range(3) for e in range(3)]
        stays = [("seq", ("do", "a", tuple(mode if m == mode else None for m in range(3))), ("call", "spin")) for mode in range(3)]
        if lasting:
            # 32 relations and eight lasting sets for each of three procedures; and "spin".
            procedures = [Procedure(name, BLOCK, self.climbing(name, relations[:5] + stays)) for name in "fgh"] + [SPIN]
            calls = [("call", name, ("do", "a", (None, None, None))) for name in "fgh"] + [("call", "spin")]
        else:
            # 256 relations for each of three procedures.
            procedures = [Procedure("f", BLOCK, self.climbing("f", relations[:8]) + (("call", "g", ("run", "b")),)),
                          Procedure("g", BLOCK, ("call", "h", ("run", "b"))), Procedure("h", BLOCK, ("run", "b"))]
            calls = [("call", "f", ("do", "a", (None, None, None))), ("call", "part")]
        tables = list(itertools.product((None, 0, 1, 2), repeat=3))[:single]
        singles = tuple(("call", "one", ("do", "go", table)) for table in tables)
        if lasting:
            return main(("or",) + tuple(calls) + singles[19:] + (("call", "part"),), *procedures, Procedure("part", (), ("or", DONE) + singles[:19]),
                        Procedure("one", BLOCK, ("run", "b")), modes=3)
        return main(("or",) + tuple(calls) + singles[18:], *procedures, Procedure("part", (), ("or", DONE) + singles[:18]),
                    Procedure("one", BLOCK, ("run", "b")), modes=3)

    def climbing(self, name, added):
        return ("or", ("run", "b")) + tuple(("call", name, ("or", ("run", "b"), term)) for term in added)

    def test_just_800_and_one_more(self):
        for lasting in (False, True):
            # With lasting blocks, main, "part" and "spin" are three of them.
            base = 1 + 3 * 256 + 1 + lasting
            for wanted in (790, 799, 800):
                program = self.crowd(wanted - base, lasting)
                book = lasting_book(program)
                self.assertEqual(len(book), wanted)
                self.assertEqual(len(book_of(program)), wanted - (7 * 32 * 3 if lasting else 0))
                self.assert_same(true_lasting(program, MAIN), book[MAIN])
                self.assertIs(can_last(program, 0), True)
                paper = lasting_paper(program, 1)
                self.assertEqual((paper[0], len(paper[1])), ("table", wanted))
                self.assertIs(is_lasting_paper(program, 1, paper), True)
                self.assertEqual(endless_beginning(program, 2, 30).steps, 30)
            program = self.crowd(801 - base, lasting)
            for call in (lasting_book, lasting_modes):
                self.assert_raises(TooMany, call, program, limit=800)
            self.assert_raises(TooMany, can_last, program, 1, limit=800)
            self.assert_raises(TooMany, endless_beginning, program, 0, 3, limit=800)
            self.assert_raises(TooMany, true_lasting, program, MAIN, limit=800)
            # From the others on there are fewer.
            self.assert_same(true_lasting(program, ("part", ())), 0)
            if lasting:
                self.assertEqual(len(book_of(program)), 801 - 7 * 32 * 3)

    def test_relations_that_a_paper_asks_for(self):
        begin = Procedure("begin", (), crowd(9, 9)["main"].body)
        program = main(("or", DONE, ("call", "begin")), begin, *crowd(9, 9).procedures[1:])
        right, wrong = {MAIN: 0}, {MAIN: 3}
        self.assert_raises(TooMany, is_lasting_paper, program, 0, ("ladder", (right,)), limit=800)
        self.assert_raises(TooMany, is_lasting_paper, program, 0, ("table", wrong), limit=800)
        # Without the right form, or with main wrong, no relation is asked for.
        for value in (("ladder", (wrong,)), ("table", right), ("ladder", (right, wrong)), ("ladder", right), ("table", (right,)), ("ladder", ()),
                      ("ladder", [right]), ("table", {MAIN: 4}), ("ladder", ({("begin", ()): 0},)), ("run", right), ("ladder", (right, {}))):
            self.assertIs(is_lasting_paper(program, 0, value), False)
        self.assert_raises(TooMany, is_lasting_paper, program, 0, ("ladder", ({("begin", ()): 0}, right)), limit=800)
        self.assert_raises(TooMany, is_lasting_paper, program, 0, ("ladder", ({MAIN: 3}, right)), limit=800)
        # "begin" itself asks for contexts from each of which on there are few.
        only = main(DONE, begin, *crowd(9, 9).procedures[1:])
        self.assertIs(is_lasting_paper(only, 0, ("ladder", ({("begin", ()): 3}, right))), True)

    def stairs(self, many):
        """Seven procedures, each of which calls the next one with more and all others behind it, with so many deeds."""
        names = "abcdefg"
        deeds = [("do", "a", tuple(e if m == mode else None for m in range(3))) for mode in range(3) for e in range(3)][:many]
        procedures = []
        for place, name in enumerate(names):
            calls = [("call", other, ("or", ("run", "b"), deed)) for other in names[place + 1:place + 2] for deed in deeds]
            calls += [("call", other, ("run", "b")) for other in names[place + 2:]]
            procedures.append(Procedure(name, BLOCK, ("or", ("run", "b")) + tuple(calls)))
        calls = [("call", name, ("do", "a", (None, None, None))) for name in names[:many - 4]]
        return main(("or",) + tuple(calls), *procedures, modes=3)

    def test_a_ladder_that_is_too_long(self):
        # Each context is needed on all rungs where those that ask for it are on the next one.
        program = self.stairs(5)
        paper = lasting_paper(program, 0)
        self.assertEqual((paper[0], len(paper[1])), ("ladder", 8))
        self.assertLessEqual(sum(len(rung) for rung in paper[1]), 800)
        self.assertIs(is_lasting_paper(program, 0, paper), True)
        program = self.stairs(7)
        self.assertLess(len(lasting_book(program)), 800)
        self.assert_same(lasting_modes(program), ())
        for mode in range(3):
            self.assertIs(can_last(program, mode), False)
            self.assertIsNone(endless_beginning(program, mode, 5))
            self.assert_raises(TooMany, lasting_paper, program, mode, limit=800)
        self.assert_raises(InvalidNumber, lasting_paper, program, 3, value=3)

    def test_ladders_that_are_too_long_are_judged(self):
        program = self.stairs(5)
        dicts = lasting_paper(program, 0)[1]
        # As many empty dicts, and as many contexts that do not matter, as one likes.
        book = {context: 7 for context in lasting_book(program)}
        longer = tuple({**{context: 7 for context in book}, **rung} for rung in ({},) * 3 + dicts)
        self.assertGreater(sum(len(rung) for rung in longer), 800)
        self.assertIs(is_lasting_paper(program, 0, ("ladder", longer)), True)
        self.assertIs(is_lasting_paper(program, 0, ("ladder", longer[::-1])), False)


class JudgeTest(PromiseTest):
    def check(self, program, mode, value, wanted):
        self.assertIs(is_lasting_paper(program, mode, value), wanted)

    def test_tables(self):
        for program, lasting in LASTING.values():
            book = lasting_book(program)
            everything = {context: 2 ** program.modes - 1 for context in book}
            for mode in range(program.modes):
                self.check(program, mode, ("table", book), mode in lasting)
                self.check(program, mode, ("table", everything), SlowLasting(program).is_supported(everything))
                self.check(program, mode, ("ladder", (book,)), mode not in lasting and SlowLasting(program).is_ladder((book,)))
                self.check(program, mode, ("ladder", book), False)
                self.check(program, mode, ("table", (book,)), False)

    def test_bent_tables(self):
        for name in ("locks", "by a block", "by a wrap", "ring from one mode", "three modes in a ring", "deeper and deeper"):
            program, lasting = LASTING[name]
            book, slow = lasting_book(program), SlowLasting(program)
            for context in list(book)[::1 + len(book) // 30]:
                less = {other: book[other] for other in book if other != context}
                self.check(program, lasting[0], ("table", less), context != MAIN and slow.is_supported(less))
                for mode in range(program.modes):
                    bent = {**book, context: book[context] ^ (1 << mode)}
                    self.check(program, lasting[0], ("table", bent), bool(bent[MAIN] >> lasting[0] & 1) and slow.is_supported(bent))

    def test_tables_with_fewer_modes(self):
        # A supported table need not have all that lasts.
        program = LASTING["spin"][0]
        self.check(program, 0, ("table", {MAIN: 1, ("spin", ()): 1}), True)
        self.check(program, 1, ("table", {MAIN: 1, ("spin", ()): 1}), False)
        self.check(program, 0, ("table", {MAIN: 3, ("spin", ()): 1}), False)
        self.check(program, 0, ("table", {MAIN: 1, ("spin", ()): 3}), True)
        self.check(program, 0, ("table", {MAIN: 1}), False)

    def test_tables_with_more_contexts(self):
        book = lasting_book(LOOP)
        self.check(LOOP, 0, ("table", book), True)
        flips = {**lasting_book(LOCKS), ("locked", ((15, 0),)): 0}
        self.check(LOCKS, 0, ("table", flips), True)
        crooked = ("deep", ((LOCK_TABLE, LASTING_LOCK[::-1]),))
        for modes in range(4):
            more = {**lasting_book(LOCKS), crooked: modes}
            self.check(LOCKS, 0, ("table", more), SlowLasting(LOCKS).is_supported(more))

    def ladders(self):
        for name, (program, lasting) in LASTING.items():
            for mode in range(program.modes):
                if mode not in lasting:
                    yield program, mode, lasting_paper(program, mode)[1]

    def test_ladders(self):
        many = 0
        for program, mode, dicts in self.ladders():
            many += 1
            slow = SlowLasting(program)
            self.assertIs(type(dicts), tuple)
            self.assertIs(slow.is_ladder(dicts), True)
            for rung in dicts:
                self.assertEqual(list(rung), sorted(rung))
            self.check(program, mode, ("ladder", dicts), True)
            self.check(program, mode, ("ladder", ({},) + dicts), True)
            self.check(program, mode, ("ladder", ({},) * 5 + dicts), True)
            self.check(program, mode, ("ladder", dicts + ({},)), False)
            self.check(program, mode, ("ladder", list(dicts)), False)
            self.check(program, mode, ("table", dicts[-1]), False)
            self.check(program, mode, ["ladder", dicts], False)
            self.check(program, mode, ("ladder", dicts, dicts), False)
        self.assertGreater(many, 20)

    def test_bent_ladders(self):
        right = 0
        for program, mode, dicts in self.ladders():
            slow = SlowLasting(program)
            bent = [dicts[:place] + dicts[place + 1:] for place in range(len(dicts))]
            bent += [dicts[:place] + dicts[place:place + 1] * 2 + dicts[place + 1:] for place in range(len(dicts))]
            bent += [dicts[::-1], dicts[1:] + dicts[:1]]
            for place, rung in enumerate(dicts):
                for context in list(rung)[:5]:
                    less = {other: rung[other] for other in rung if other != context}
                    turned = {**rung, context: rung[context] ^ 1}
                    bent += [dicts[:place] + (other,) + dicts[place + 1:] for other in (less, turned)]
                    wrong = {**rung, ("nowhere", ()): 0}
                    self.check(program, mode, ("ladder", dicts[:place] + (wrong,) + dicts[place + 1:]), False)
            for other in bent:
                has_main = other != () and MAIN in other[-1] and not other[-1][MAIN] >> mode & 1
                wanted = has_main and slow.is_ladder(other)
                right += wanted
                self.check(program, mode, ("ladder", other), wanted)
        self.assertGreater(right, 20)

    def test_papers_of_other_modes_and_programs(self):
        program, _ = LASTING["ring from one mode"]
        papers = [lasting_paper(program, mode) for mode in range(2)]
        self.assertEqual([paper[0] for paper in papers], ["table", "ladder"])
        self.check(program, 1, papers[0], False)
        self.check(program, 0, papers[1], False)
        self.check(FLIPS, 0, papers[0], False)
        self.check(LOCKS, 0, ("table", lasting_book(LOOP)), False)

    def test_longer_ladders_by_rounds(self):
        # As many rounds as one likes, each with all that is asked for.
        for name in ("flips", "one after another", "until it is stuck", "ring with a hole", "a wrap that does not last"):
            program, _ = LASTING[name]
            slow = SlowLasting(program)
            contexts, rounds, table = {MAIN}, [], {}
            for _ in range(7):
                pending = list(contexts)
                while pending:
                    new = set(asked_by(program, pending.pop(), table, rest=2 ** program.modes - 1)) - contexts
                    contexts |= new
                    pending.extend(new)
                table = {context: slow.reckon(context, table, 2 ** program.modes - 1)[0] for context in contexts}
                rounds.append(table)
            for mode in range(program.modes):
                self.check(program, mode, ("ladder", tuple(rounds)), not rounds[-1][MAIN] >> mode & 1)

    def test_what_is_no_paper(self):
        for value in anything():
            for program in (FLIPS, LOOP):
                self.check(program, 0, value, False)
                self.check(program, 0, ("table", value), False)
                self.check(program, 0, ("ladder", value), False)
                self.check(program, 0, ("ladder", (value,)), False)
                self.check(program, 0, (value, {MAIN: 1}), False)
        for table in ({MAIN: True}, {MAIN: 2}, {MAIN: -1}, {"main": 1}, {MAIN: 1, ("main", (0,)): 1}, {MAIN: None}):
            self.check(LOOP, 0, ("table", table), False)

    def test_errors(self):
        for value in anything():
            if value not in (FLIPS, LOCKS):
                self.assert_raises(InvalidProgram, is_lasting_paper, value, 9, None)
            if value not in (0, 1) or isinstance(value, bool):
                self.assert_raises(InvalidNumber, is_lasting_paper, LOCKS, value, None, value=value)

    def test_values_are_not_changed(self):
        paper = lasting_paper(LOCKS, 0)
        before = picture(paper)
        self.check(LOCKS, 0, paper, True)
        self.assertEqual(picture(paper), before)


class BeginningTest(PromiseTest):
    def by_run(self, program, start, choices):
        """The numbers of steps that can be taken with just these choices, each with its mode and its words."""
        found = {}
        for many in range(len(choices) + 1):
            run = Run(program, start, *choices[:many])
            found[run.steps - (run.state == "stuck")] = (many, run.mode, run.words)
        return found

    def test_properties(self):
        beginning = Beginning(FLIPS, 0, 5, 0)
        self.assert_same((beginning.program, beginning.start, beginning.steps, beginning.choices, beginning.mode, beginning.words, len(beginning)),
                         (FLIPS, 0, 5, (0,), 1, ("flip",), 1))
        self.assertEqual(str(beginning), "beginning of 5 steps, 1 choices, in 1")
        self.assertEqual(str(Beginning(LOOP, 0, 7)), "beginning of 7 steps, 0 choices, in 0")
        self.assert_not_iterable(beginning)
        for name in ("program", "start", "steps", "choices", "mode", "words"):
            with self.assertRaises(AttributeError):
                setattr(beginning, name, 0)

    def test_steps_of_runs(self):
        for seed in range(80):
            program = random_program(seed)
            for start in range(program.modes):
                layer = [Run(program, start)] if self.stops(program, start) else []
                for _ in range(4):
                    for run in layer:
                        last = run.steps - (run.state == "stuck")
                        self.check_run(run, last)
                    waiting = [run for run in layer if run.state == "waiting"][:15]
                    layer = [run.chosen(index) for run in waiting for index in range(run.options) if self.stops(program, start, *run.choices, index)]

    def stops(self, program, start, *choices):
        try:
            Run(program, start, *choices)
        except TooMany:
            return False
        return True

    def check_run(self, run, last):
        """All steps up to the last one can be taken, and no more."""
        found = Beginning(run.program, run.start, last, *run.choices)
        self.assert_same((found.mode, found.words, found.steps), (run.mode, run.words, last))
        self.assert_raises(InvalidOperation, Beginning, run.program, run.start, last + 1, *run.choices)
        self.assert_raises(InvalidOperation, Beginning, run.program, run.start, last, *run.choices, 0)
        if run.choices:
            self.assert_raises(InvalidOperation, Beginning, run.program, run.start, last, *run.choices[:-1])
        if run.options:
            self.assert_raises(InvalidOperation, Beginning, run.program, run.start, last + 1, *run.choices, run.options)
            self.assertEqual(Beginning(run.program, run.start, last + 1, *run.choices, 0).mode, run.mode)

    def test_no_steps(self):
        for program in (FLIPS, LOCKS, LOOP):
            self.assert_same(Beginning(program, 0, 0).mode, 0)
            self.assert_raises(InvalidOperation, Beginning, program, 0, 0, 0)
        self.assert_raises(InvalidOperation, Beginning, main(("or", DONE)), 0, 0, 0)
        self.assert_same(Beginning(main(("or", DONE)), 0, 1, 0).words, ())

    def test_a_thousand_steps(self):
        self.assert_same(len(Beginning(LOOP, 0, 1000).words), 333)
        self.assert_raises(InvalidNumber, Beginning, LOOP, 0, 1001, value=1001)
        spin = LASTING["spin"][0]
        self.assert_same(Beginning(spin, 1, 1000).mode, 1)

    def test_the_end_and_a_stuck_deed(self):
        program = main(("seq", FLIP, FLIP))
        self.assert_same(Beginning(program, 0, 3).words, ("flip", "flip"))
        self.assert_raises(InvalidOperation, Beginning, program, 0, 4)
        stuck = main(("seq", FLIP, ("do", "only", (0, None))))
        self.assert_same(Beginning(stuck, 0, 2).mode, 1)
        self.assert_raises(InvalidOperation, Beginning, stuck, 0, 3)
        self.assert_same(Beginning(stuck, 1, 3).words, ("flip", "only"))
        self.assert_raises(InvalidOperation, Beginning, stuck, 1, 4)
        self.assert_same(Beginning(main(DONE), 0, 1).words, ())

    def test_equal_ones(self):
        one = Beginning(FLIPS, 0, 5, 0)
        self.assert_equal_things(one, Beginning.of(FLIPS, 0, 5, (0,)))
        for other in (Beginning(FLIPS, 1, 5, 0), Beginning(FLIPS, 0, 4, 0), Beginning(FLIPS, 0, 5, 1), Run(FLIPS, 0, 0)):
            self.assertIs(one == other, False)
            self.assertIs(one != other, True)
        self.assert_equals_no_other(one, anything())

    def test_errors(self):
        for value in anything():
            if value not in (FLIPS, LOCKS):
                self.assert_raises(InvalidProgram, Beginning, value, 9, -1, None)
                self.assert_raises(InvalidProgram, Beginning.of, value, 9, -1, None)
                self.assert_raises(InvalidProgram, endless_beginning, value, 9, -1)
            if value not in (0, 1) or isinstance(value, bool):
                self.assert_raises(InvalidNumber, Beginning, LOCKS, value, -1, None, value=value)
                self.assert_raises(InvalidNumber, Beginning.of, LOCKS, value, -1, None, value=value)
                self.assert_raises(InvalidNumber, endless_beginning, LOCKS, value, -1, value=value)
            if not isinstance(value, int) or isinstance(value, bool) or not 0 <= value <= 1000:
                self.assert_raises(InvalidNumber, Beginning, LOCKS, 0, value, None, value=value)
                self.assert_raises(InvalidNumber, Beginning.of, LOCKS, 0, value, None, value=value)
                self.assert_raises(InvalidNumber, endless_beginning, LOCKS, 0, value, value=value)
            if not isinstance(value, int) or isinstance(value, bool) or value < 0:
                self.assert_raises(InvalidOperation, Beginning, FLIPS, 0, 5, value)
                self.assert_raises(InvalidOperation, Beginning, FLIPS, 0, 5, 0, value)
                self.assert_raises(InvalidOperation, Beginning.of, FLIPS, 0, 5, (0, value))
            if not isinstance(value, tuple):
                self.assert_raises(InvalidOperation, Beginning.of, FLIPS, 0, 0, value)
        for choices in ((), (2,), (0, 0), (0, 1, 1), (GREATEST,), (0, GREATEST)):
            self.assert_raises(InvalidOperation, Beginning, FLIPS, 0, 5, *choices)
        with self.assertRaises(TypeError):
            Beginning(FLIPS, 0)


class EndlessBeginningTest(PromiseTest):
    def test_all_numbers_of_steps(self):
        for name in ("locks", "behind a turn", "by a block where it can", "by a wrap that is handed on", "deeper and deeper"):
            program, lasting = LASTING[name]
            for steps in range(40):
                found = endless_beginning(program, lasting[0], steps)
                self.assert_same((found.steps, found.program, found.start), (steps, program, lasting[0]))

    def test_it_goes_on(self):
        # What is behind the steps can go on for ever: so it is a beginning of longer ones.
        for program, lasting in LASTING.values():
            for mode in lasting:
                longer = endless_beginning(program, mode, 300)
                for steps in (0, 3, 20, 299):
                    shorter = [many for many in range(len(longer) + 1) if self.fits(program, mode, steps, longer.choices[:many])]
                    self.assertEqual(len(shorter), 1)

    def fits(self, program, mode, steps, choices):
        try:
            Beginning(program, mode, steps, *choices)
        except InvalidOperation:
            return False
        return True

    def test_equal_calls_on_equal_states(self):
        for program, lasting in LASTING.values():
            for mode in lasting:
                self.assert_same(endless_beginning(program, mode, 50), endless_beginning(program, mode, 50))


class TimeTest(PromiseTest):
    def test_some_hundred_contexts(self):
        deeds = [("do", "a", tuple(e if m == mode else None for m in range(3))) for mode in range(3) for e in range(3)]
        body = ("or", ("run", "b")) + tuple(("call", "f", ("or", ("run", "b"), deed)) for deed in deeds)
        program = main(("call", "f", ("do", "a", (None, None, None))), Procedure("f", BLOCK, body), modes=3)
        begin = time.perf_counter()
        for _ in range(5):
            self.assertEqual(len(lasting_book(program)), 513)
            paper = lasting_paper(program, 0)
            self.assertIs(is_lasting_paper(program, 0, paper), True)
            endless_beginning(program, 0, 1000)
            lasting_paper(LOCKS, 0)
        self.assertLess(time.perf_counter() - begin, 8)


class ExampleTest(PromiseTest):
    def test_examples(self):
        self.assert_same(
            [can_last(LOOP, 0), lasting_modes(LOCKS), lasting_modes(FLIPS), lasting_book(LOOP), lasting_book(FLIPS)],
            [True, (0, 1), (), {MAIN: 1}, {MAIN: 0, ("twice", ((15, 0),)): 0}])
        self.assert_same(
            [lasting_paper(LOOP, 0), is_lasting_paper(FLIPS, 0, ("ladder", ({("twice", ((15, 0),)): 0}, {MAIN: 0}))),
             is_lasting_paper(LOOP, 0, ("table", {MAIN: 0}))],
            [("table", {MAIN: 1}), True, False])
        self.assert_same(
            [endless_beginning(LOOP, 0, 7).words, str(endless_beginning(LOOP, 0, 7)), endless_beginning(FLIPS, 0, 7),
             Beginning(FLIPS, 0, 4, 0).words == (), Beginning(FLIPS, 0, 5, 0).words],
            [("tick", "tick"), "beginning of 7 steps, 0 choices, in 0", None, True, ("flip",)])


if __name__ == "__main__":
    unittest.main()
