"""Stage 17: `is_full_context`, `plain_context`, `lasting_by` and `asked_by`, [0.20], [0.21] and [17.1]."""

import random
import unittest

from blockshanded.base.procedures import Procedure
from blockshanded.base.programs import Program
from blockshanded.errors import InvalidMeaning, InvalidNumber, InvalidOperation, InvalidProgram, TooMany
from blockshanded.last import meanings
from blockshanded.last.meanings import asked_by, is_full_context, lasting_by, plain_context
from tests.crowds import crowd
from tests.lasting_programs import LASTING, ONCE, USE
from tests.long_runs import DONE, main
from tests.random_programs import random_program
from tests.samples import FLIP, FLIPS, GREATEST, LOCKS, LOOP, PromiseTest, anything, picture
from tests.slowly_lasting import SlowLasting
from tests.test_callers import LOCK_TABLE

MAIN = ("main", ())
LASTING_LOCK = tuple((1 if lasting & 2 else 0) for _ in range(16) for lasting in range(4))
ZERO = (0,) * 64
LOCK = (LOCK_TABLE, LASTING_LOCK)


class FormTest(PromiseTest):
    def test_full_contexts(self):
        for program, value in ((FLIPS, MAIN), (FLIPS, ("twice", ((15, 2),))), (FLIPS, ("twice", ((0, 0),))), (FLIPS, ("twice", ((15, 3),))),
                               (LOOP, MAIN), (LOCKS, ("deep", (LOCK,))), (LOCKS, ("again", (LOCK, (3, 1)))),
                               (LOCKS, ("deep", ((LOCK_TABLE, ZERO),))), (LOCKS, ("deep", ((tuple(range(16)), (3,) * 64),)))):
            self.assertIs(is_full_context(program, value), True)

    def test_lasting_tables_may_be_any(self):
        # The table has to be monotone, the lasting table not.
        self.assertIs(is_full_context(LOCKS, ("deep", ((LOCK_TABLE, LASTING_LOCK[::-1]),))), True)
        self.assertIs(is_full_context(LOCKS, ("deep", ((LOCK_TABLE[::-1], LASTING_LOCK),))), False)

    def test_what_is_none(self):
        for value in (("twice", (15,)), ("twice", ()), ("twice", ((15, 4),)), ("twice", ((16, 0),)), ("twice", ((-1, 0),)), ("twice", ((0, -1),)),
                      ("twice", ((15, 2), (15, 2))), ("twice", ([15, 2],)), ("twice", [(15, 2)]), ["twice", ((15, 2),)], ("twice", ((True, 2),)),
                      ("twice", ((15, True),)), ("twice", ((15, 2, 0),)), ("twice", ((15,),)), ("nowhere", ()), ("main", ((0, 0),)), ("main",),
                      ("main", (), ()), ("twice", ((15, None),)), ("twice", (None,)), ("twice", (LOCK,)), (b"main", ()), (("main",), ())):
            self.assertIs(is_full_context(FLIPS, value), False)
        for meaning in ((LOCK_TABLE, LASTING_LOCK[:-1]), (LOCK_TABLE, LASTING_LOCK + (0,)), (LOCK_TABLE, list(LASTING_LOCK)),
                        (LOCK_TABLE, ZERO[:-1] + (4,)), (LOCK_TABLE, ZERO[:-1] + (-1,)), (LOCK_TABLE, ZERO[:-1] + (True,)),
                        (LOCK_TABLE[:-1], ZERO), (LOCK_TABLE[:-1] + (16,), ZERO), (LOCK_TABLE[:-1] + (True,), ZERO), (list(LOCK_TABLE), ZERO),
                        LOCK_TABLE, (LOCK_TABLE,), (LOCK_TABLE, ZERO, ZERO), (3, 1), 3, None, [LOCK_TABLE, ZERO], (ZERO, LOCK_TABLE)):
            self.assertIs(is_full_context(LOCKS, ("deep", (meaning,))), False)
        for value in anything():
            for program in (FLIPS, LOCKS, LOOP):
                self.assertIs(is_full_context(program, value), False)
            self.assertIs(is_full_context(FLIPS, ("twice", (value,))), False)
            self.assertIs(is_full_context(FLIPS, ("twice", ((15, value),))), False if value not in (0, 1, 2, 3) or isinstance(value, bool) else True)
            self.assertIs(is_full_context(FLIPS, (value, ())), value == "main")
            self.assertIs(is_full_context(LOCKS, ("deep", ((LOCK_TABLE, value),))), False)

    def test_plain_contexts(self):
        self.assert_same(plain_context(FLIPS, MAIN), MAIN)
        self.assert_same(plain_context(FLIPS, ("twice", ((15, 2),))), ("twice", (15,)))
        self.assert_same(plain_context(LOCKS, ("again", (LOCK, (3, 1)))), ("again", (LOCK_TABLE, 3)))

    def test_errors(self):
        for value in anything():
            if value not in (FLIPS, LOCKS):
                self.assert_raises(InvalidProgram, is_full_context, value, MAIN)
                self.assert_raises(InvalidProgram, plain_context, value, 5)
            self.assert_raises(InvalidOperation, plain_context, FLIPS, value)
        for value in (("twice", (15,)), ("deep", ((LOCK_TABLE[::-1], ZERO),)), ("twice", ((True, 2),))):
            self.assert_raises(InvalidOperation, plain_context, LOCKS if value[0] == "deep" else FLIPS, value)

    def test_where_all_is_defined(self):
        for name in ("is_full_context", "plain_context", "lasting_by", "asked_by"):
            self.assertEqual(getattr(meanings, name).__module__, "blockshanded.last.meanings")


class ReckonedTest(PromiseTest):
    def check(self, program, context, table, rest=0):
        wanted, asked = SlowLasting(program).reckon(context, table, rest)
        self.assert_same(lasting_by(program, context, table, rest=rest), wanted)
        self.assert_same(asked_by(program, context, table, rest=rest), tuple(sorted(asked)))
        return wanted

    def test_terms(self):
        run = ("run", "b")
        bodies = [run, FLIP, DONE, ("seq", run, run), ("seq", FLIP, run), ("seq", run, FLIP, run), ("or", run, FLIP), ("or", run),
                  ("seq", ("do", "a", (None, None)), run), ("seq", ("do", "a", (1, None)), run), ("or", ("seq", FLIP, run), run),
                  ("call", "p", run), ("call", "p", ("seq", run, FLIP)), ("seq", ("call", "p", run), run), ("wrap", ("with", "p"), run),
                  ("seq", ("wrap", ("with", "p"), FLIP), ("call", "p", DONE)), ("call", "use", ("with", "p")), ("call", "p", ("call", "p", run))]
        for body in bodies:
            program = main(DONE, Procedure("p", (("b", "block"),), body), USE)
            for relation in (0, 2, 6, 9, 11, 15):
                for lasting in range(4):
                    for rest in range(4):
                        self.check(program, ("p", ((relation, lasting),)), {}, rest)
                    self.check(program, ("p", ((relation, lasting),)), {("p", ((relation, lasting),)): 1, ("p", ((9, 0),)): 2}, 3)

    def test_wraps_that_are_handed(self):
        for body in (("wrap", ("own", "w"), ("run", "b")), ("wrap", ("own", "w"), ("wrap", ("own", "w"), ("run", "b"))),
                     ("seq", ("wrap", ("own", "w"), FLIP), ("run", "b")), ("call", "use", ("own", "w")), ("call", "use", ("with", "p", ("own", "w")))):
            program = main(DONE, Procedure("p", (("w", "wrap"), ("b", "block")), body), USE)
            for wrap in (LOCK, (LOCK_TABLE, ZERO), (tuple(range(16)), (3,) * 64), (LOCK_TABLE, LASTING_LOCK[::-1])):
                for block in ((0, 0), (9, 2), (6, 3), (15, 1)):
                    for rest in (0, 2, 3):
                        self.check(program, ("p", (wrap, block)), {}, rest)

    def test_dicts_with_many_contexts(self):
        maker = random.Random(3)
        for _, (program, _) in LASTING.items():
            asked, pending, table = set(), [MAIN], {}
            while pending and len(asked) < 150:
                context = pending.pop()
                found = set(asked_by(program, context, table, rest=2 ** program.modes - 1)) - asked
                asked |= found
                pending.extend(found)
                for other in found:
                    table[other] = maker.randrange(2 ** program.modes)
            for context in list(asked)[:12] + [MAIN]:
                for rest in (0, 2 ** program.modes - 1):
                    self.check(program, context, table, rest)

    def test_random_programs(self):
        for seed in range(120):
            program = random_program(seed)
            slow = SlowLasting(program)
            try:
                self.check(program, MAIN, {}, 0)
                self.check(program, MAIN, {MAIN: 0}, 2 ** program.modes - 1)
            except TooMany:
                self.assertIsNone(slow.slow.book(limit=800))
            except TypeError:
                self.assertIsNone(slow.slow.book(limit=3000))

    def test_what_the_dict_does_not_tell(self):
        self.assert_same(lasting_by(LOOP, MAIN, {}), 0)
        self.assert_same(lasting_by(LOOP, MAIN, {}, rest=1), 1)
        self.assert_same(lasting_by(LOOP, MAIN, {MAIN: 0}, rest=1), 0)
        self.assert_same(lasting_by(LOOP, MAIN, {MAIN: 1}), 1)

    def test_all_full_meanings_of_a_handed_wrap_are_asked_for(self):
        program = main(("call", "use", ("with", "once")), USE, ONCE)
        asked = asked_by(program, MAIN, {})
        self.assertEqual([context for context in asked if context[0] == "once"],
                         [("once", ((relation, lasting),)) for relation in range(16) for lasting in range(4)])
        self.assert_same(asked[-1], ("use", ((tuple(range(16)), ZERO),)))
        self.assert_same(asked_by(program, MAIN, {}, rest=2)[-1], ("use", ((tuple(range(16)), (2,) * 64),)))
        one = Program(1, Procedure("main", (), ("call", "use", ("with", "once"))), Procedure("use", (("w", "wrap"),), DONE), ONCE)
        self.assert_same(asked_by(one, MAIN, {}, rest=1), tuple(("once", ((relation, lasting),)) for relation in range(2) for lasting in range(2))
                         + (("use", (((0, 1), (1,) * 4),)),))

    def test_errors(self):
        for call in (lasting_by, asked_by):
            for value in anything():
                if value not in (FLIPS, LOCKS):
                    self.assert_raises(InvalidProgram, call, value, 5, 5, by_keyword={"rest": 9})
                self.assert_raises(InvalidOperation, call, FLIPS, value, 5, by_keyword={"rest": 9})
                if not isinstance(value, dict) or value != {}:
                    self.assert_raises(InvalidMeaning, call, FLIPS, MAIN, value, by_keyword={"rest": 9})
                if value not in (0, 1, 2, 3) or isinstance(value, bool):
                    self.assert_raises(InvalidNumber, call, FLIPS, MAIN, {}, by_keyword={"rest": value}, value=value)
            for table in ({"main": 0}, {MAIN: 4}, {MAIN: -1}, {MAIN: True}, {MAIN: None}, {("twice", (15,)): 0}, {("twice", ((15, 4),)): 0},
                          {MAIN: GREATEST}, {MAIN: 0, ("nowhere", ()): 0}, [MAIN], ((MAIN, 0),)):
                self.assert_raises(InvalidMeaning, call, FLIPS, MAIN, table)
            self.assert_raises(InvalidOperation, call, LOCKS, ("deep", ((LOCK_TABLE[::-1], ZERO),)), {})
            self.assert_raises(InvalidMeaning, call, LOCKS, MAIN, {("deep", ((LOCK_TABLE[::-1], ZERO),)): 0})

    def test_too_many(self):
        program = main(("or", DONE, ("call", "begin")), Procedure("begin", (), crowd(9, 9)["main"].body), *crowd(9, 9).procedures[1:])
        for call in (lasting_by, asked_by):
            self.assert_raises(TooMany, call, program, MAIN, {}, limit=800)
            self.assert_raises(InvalidNumber, call, program, MAIN, {}, by_keyword={"rest": 4}, value=4)
            # From each of the procedures on that "begin" calls, there are not too many.
            call(program, ("begin", ()), {})
        self.assertEqual(len(asked_by(program, ("begin", ()), {})), 15)

    def test_each_plain_context_is_counted_from_itself_on(self):
        many = crowd(4, 8)
        inner = many.with_procedure(Procedure("first", (), many["main"].body)).with_procedure(Procedure("main", (), ("call", "first")))
        self.assert_same(asked_by(inner, MAIN, {}), (("first", ()),))
        more = crowd(4, 9)
        inner = more.with_procedure(Procedure("first", (), more["main"].body)).with_procedure(Procedure("main", (), ("call", "first")))
        self.assert_raises(TooMany, asked_by, inner, MAIN, {}, limit=800)
        self.assert_same(len(asked_by(inner, ("first", ()), {})), 15)

    def test_values_are_not_changed(self):
        table = {MAIN: 1, ("deep", (LOCK,)): 2}
        before = picture(table)
        lasting_by(LOCKS, MAIN, table)
        asked_by(LOCKS, MAIN, table, rest=3)
        self.assertEqual(picture(table), before)
        found = lasting_by(LOCKS, ("again", (LOCK, (9, 2))), table)
        self.assert_same(found, SlowLasting(LOCKS).reckon(("again", (LOCK, (9, 2))), table)[0])


class ExampleTest(PromiseTest):
    def test_examples(self):
        self.assert_same(
            [is_full_context(FLIPS, ("twice", ((15, 2),))), is_full_context(FLIPS, ("twice", (15,))),
             plain_context(FLIPS, ("twice", ((15, 2),))), lasting_by(FLIPS, ("twice", ((6, 2),)), {})],
            [True, False, ("twice", (15,)), 3])
        self.assert_same(
            [lasting_by(LOOP, MAIN, {}), lasting_by(LOOP, MAIN, {}, rest=1), asked_by(LOOP, MAIN, {}), asked_by(FLIPS, MAIN, {})],
            [0, 1, (MAIN,), (("twice", ((15, 0),)),)])


if __name__ == "__main__":
    unittest.main()
