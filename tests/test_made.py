"""Stage 13: `block_of`, `wrap_of` and `caller_of`, [0.17] and [13.1]."""

import itertools
import random
import time
import unittest

from blockshanded.ask.ends import can_end, ends
from blockshanded.base.procedures import Procedure, is_term
from blockshanded.base.programs import Program
from blockshanded.errors import InvalidMeaning, InvalidNumber, InvalidOperation, InvalidProgram, TooMany, UnknownName
from blockshanded.mean.books import book_of, true_relation
from blockshanded.mean.reckoning import reckoned
from blockshanded.mean.spaces import Space
from blockshanded.same import made
from blockshanded.same.made import block_of, caller_of, wrap_of
from blockshanded.same.tables import are_alike, entries_of
from tests.crowds import DEEDS, PAIR, crowd
from tests.long_runs import DONE, main
from tests.samples import GREATEST, FLIP, FLIPS, LOCKED, LOCKS, LOOP, TWICE, PromiseTest, anything, no_names
from tests.test_callers import BOTH, LOCK_TABLE

BLOCK = (("b", "block"),)
MAIN = ("main", ())
SPACE = Space(2)


def parts_of(term):
    """A term and all that are in it."""
    inner = [part for part in term[1:] if isinstance(part, tuple)] if term[0] != "do" else []
    return [term] + [other for part in inner for other in parts_of(part)]


def depth_of(term):
    inner = [part for part in term[1:] if isinstance(part, tuple)] if term[0] != "do" else []
    return 1 + max([depth_of(part) for part in inner], default=0)


def upper(pairs):
    """The table with a relation wherever one of some relations is contained: the pairs are of these and pairs."""
    return tuple(sum({1 << bit for least, bit in pairs if least | relation == relation}) for relation in range(16))


def terms_by_the_document(table, modes=2):
    """One more than the sum of the numbers of the terms for a monotone table, by [13.1]."""
    space, many = Space(modes), 1
    for bit in range(modes * modes):
        having = [relation for relation in range(space.size) if table[relation] >> bit & 1]
        for relation in having:
            if not any(other != relation and other | relation == relation for other in having):
                many += 2 * len(space.pairs(relation)) + 2
    return many


def monotone_tables(seed, many):
    """Random monotone tables of two modes, with few and with many least relations."""
    maker = random.Random(seed)
    for _ in range(many):
        pairs = [(maker.choice((0, 1, 2, 3, 5, 6, 7, 9, 12, 15, 4, 8)), maker.randrange(4))
                 for _ in range(maker.randint(0, 7))]
        yield upper(pairs)


class BlockTest(PromiseTest):
    def check(self, modes, relation):
        term = block_of(modes, relation)
        self.assertIs(is_term(term, ()), True)
        parts = parts_of(term)
        self.assertLessEqual({part[0] for part in parts}, {"do", "seq", "or"})
        self.assertEqual({part[1] for part in parts if part[0] == "do"}, {"go"})
        self.assertLessEqual(len(parts), 40)
        self.assertLessEqual(depth_of(term), 6)
        program = Program(modes, Procedure("main", (), term))
        self.assert_same(reckoned(program, MAIN, {}), relation)
        return program

    def test_all_relations_of_one_and_two_modes(self):
        for modes in (1, 2):
            for relation in range(Space(modes).size):
                program = self.check(modes, relation)
                for start in range(modes):
                    wanted = tuple(end for mode, end in Space(modes).pairs(relation) if mode == start)
                    self.assert_same(ends(program, start), wanted)

    def test_relations_of_three_modes(self):
        for relation in list(range(0, 512, 5)) + [1 << bit for bit in range(9)] + [511, 300, 273, 510]:
            self.check(3, relation)

    def test_numbers_of_modes(self):
        for value in anything():
            if value not in (1, 2, 3) or isinstance(value, bool):
                self.assert_raises(InvalidNumber, block_of, value, 5, value=value)
                self.assert_raises(InvalidNumber, block_of, value, None, value=value)

    def test_numbers_of_relations(self):
        for modes, size in ((1, 2), (2, 16), (3, 512)):
            for value in (size, size + 1, -1, -2, GREATEST, -GREATEST, True, False, None, "1", (1,), [0], {}):
                self.assert_raises(InvalidNumber, block_of, modes, value, value=value)
            for value in no_names():
                if not isinstance(value, int):
                    self.assert_raises(InvalidNumber, block_of, modes, value, value=value)
            block_of(modes, size - 1)


class WrapTest(PromiseTest):
    def check(self, modes, table):
        """The procedure for a table is right, if there is one."""
        many = terms_by_the_document(table, modes)
        if many > 40:
            self.assert_raises(TooMany, wrap_of, modes, "w", table, limit=40)
            return False
        procedure = wrap_of(modes, "w", table)
        self.assertIs(type(procedure), Procedure)
        self.assert_same((procedure.named, procedure.parameters), ("w", BLOCK))
        self.assertEqual(procedure.uses, ())
        self.assertEqual(set(procedure.words) | {"go"}, {"go"})
        program = main(DONE, procedure, modes=modes)
        self.assert_same(tuple(entries_of(program, "w").values()), table)
        return True

    def test_all_monotone_tables_of_one_mode(self):
        for table in itertools.product(range(2), repeat=2):
            if table == (1, 0):
                self.assert_raises(InvalidMeaning, wrap_of, 1, "w", table)
            else:
                self.assertIs(self.check(1, table), True)

    def test_monotone_tables_of_two_modes(self):
        made_of_them = 0
        for table in monotone_tables(1, 1200):
            self.assertIs(SPACE.is_monotone(table), True)
            made_of_them += self.check(2, table)
        self.assertGreater(made_of_them, 600)
        self.assertLess(made_of_them, 1200)

    def test_tables_of_procedures(self):
        twice = tuple(SPACE.followed(relation, relation) for relation in range(16))
        for table in (LOCK_TABLE, tuple(range(16)), (0,) * 16, (15,) * 16, (9,) * 16, twice, (0,) * 15 + (15,)):
            self.check(2, table)
        self.assertIs(are_alike(LOCKS.with_procedure(wrap_of(2, "nolock", LOCK_TABLE)), "nolock", "locked"), True)
        self.assertIs(are_alike(BOTH.with_procedure(wrap_of(2, "same", tuple(range(16)))), "same", "once"), True)

    def test_the_greatest_tables_that_are_allowed(self):
        # For one of the pairs all relations with two pairs: 36 terms more. Then one term of two, and one of four.
        two_pairs = [3, 5, 6, 9, 10, 12]
        just = [(least, 0) for least in two_pairs]
        self.assertEqual(terms_by_the_document(upper(just)), 37)
        self.assertIs(self.check(2, upper(just)), True)
        self.assertEqual(terms_by_the_document(upper(just + [(0, 1)])), 39)
        self.assertIs(self.check(2, upper(just + [(0, 1)])), True)
        self.assertEqual(terms_by_the_document(upper(just + [(0, 1), (0, 2)])), 41)
        self.assertIs(self.check(2, upper(just + [(0, 1), (0, 2)])), False)
        self.assertEqual(terms_by_the_document(upper(just + [(4, 3)])), 41)
        self.assertIs(self.check(2, upper(just + [(4, 3)])), False)

    def test_the_numbers_of_terms(self):
        # All of these numbers are odd, so 39 is the greatest one that is allowed, and 41 the least one that is not.
        seen = {}
        for table in monotone_tables(2, 4000):
            seen.setdefault(terms_by_the_document(table), table)
        for many in (1, 3, 37, 39):
            self.assertIs(self.check(2, seen[many]), True)
        for many in (41, 43):
            self.assertIs(self.check(2, seen[many]), False)
        self.assertEqual({many % 2 for many in seen}, {1})

    def test_a_wrap_that_runs_its_block_often(self):
        # [0.19]: this table is monotone, but no procedure that runs its block once at most has it.
        table = upper([(15, 0)])
        procedure = wrap_of(2, "w", table)
        runs = [part for part in parts_of(procedure.body) if part[0] == "run"]
        self.assertEqual(len(runs), 4)
        self.check(2, table)

    def test_errors(self):
        for value in anything():
            if value not in (1, 2) or isinstance(value, bool):
                self.assert_raises(InvalidNumber, wrap_of, value, 5, 5, value=value)
        for name in no_names():
            self.assert_raises(InvalidOperation, wrap_of, 2, name, (0,) * 16)
            self.assert_raises(InvalidOperation, wrap_of, 1, name, 5)
        for value in anything():
            self.assert_raises(InvalidMeaning, wrap_of, 2, "w", value)
            self.assert_raises(InvalidMeaning, wrap_of, 1, "w", value)
        for table in ((0,) * 15, (0,) * 17, [0] * 16, (0,) * 15 + (16,), (0,) * 15 + (-1,), (0,) * 15 + (True,),
                      (0,) * 15 + (None,), LOCK_TABLE[::-1], (15,) * 15 + (14,), (1,) + (0,) * 15, (0,) * 2):
            self.assert_raises(InvalidMeaning, wrap_of, 2, "w", table)
        for table in ((False, True), (0, 2), (0,), (0, 0, 0), [0, 0]):
            self.assert_raises(InvalidMeaning, wrap_of, 1, "w", table)
        # A table that is not monotone, and would have too many terms.
        crooked = list(upper([(least, bit) for least in (3, 5, 6, 9, 10, 12) for bit in range(4)]))
        self.assert_raises(TooMany, wrap_of, 2, "w", tuple(crooked), limit=40)
        crooked[15] = 0
        self.assert_raises(InvalidMeaning, wrap_of, 2, "w", tuple(crooked))

    def test_names(self):
        self.assert_same(wrap_of(1, "main", (0, 1)).named, "main")
        self.assert_same(wrap_of(2, "abcdefgh", (0,) * 16).named, "abcdefgh")


class CallerTest(PromiseTest):
    def check(self, program, name, meanings):
        """The ends of the caller are the pairs of the true relation."""
        other = caller_of(program, name, meanings)
        relation = true_relation(program, (name, meanings))
        self.assert_same((other.modes, other.names), (program.modes, program.names))
        for procedure in program.procedures:
            if procedure.named != "main":
                self.assert_same(other[procedure.named], procedure)
        self.assertEqual([own.named for own in other.procedures], [own.named for own in program.procedures])
        for start in range(program.modes):
            for end in range(program.modes):
                wanted = relation >> (start * program.modes + end) & 1 == 1
                self.assertIs(can_end(other, start, end), wanted)

    def test_all_relations(self):
        for relation in range(16):
            self.check(BOTH, "twice", (relation,))
            self.check(BOTH, "once", (relation,))
            self.check(LOCKS, "locked", (relation,))

    def test_numbers_of_parameters(self):
        blocks = (("x", "block"), ("y", "block"), ("z", "block"))
        for modes in (1, 2, 3):
            for many in range(4):
                names = [name for name, _ in blocks[:many]]
                body = ("or", ("seq",) + tuple(("run", name) for name in names), ("do", "go", (0,) * modes))
                program = main(DONE, Procedure("p", blocks[:many], body), modes=modes)
                size = Space(modes).size
                for meanings in ((0,) * many, (size - 1,) * many, tuple(range(1, many + 1)) if modes > 1 else (1,) * many):
                    self.check(program, "p", meanings)

    def test_procedures_that_call_others(self):
        inner = Procedure("inner", BLOCK, ("or", ("run", "b"), ("call", "outer", ("seq", FLIP, ("run", "b")))))
        outer = Procedure("outer", BLOCK, ("call", "inner", ("run", "b")))
        program = main(("call", "main"), inner, outer)
        for relation in range(16):
            self.check(program, "outer", (relation,))

    def test_the_first_and_the_last_place_of_main(self):
        program = Program(2, TWICE, LOCKED, Procedure("main", (), ("call", "twice", FLIP)))
        self.check(program, "twice", (6,))
        self.assert_same(caller_of(program, "twice", (6,)).procedures[:2], (TWICE, LOCKED))

    def test_eight_procedures(self):
        others = [Procedure(name, BLOCK, ("run", "b")) for name in "abcdefg"]
        self.check(main(DONE, *others), "c", (7,))

    def test_procedures_that_call_main(self):
        direct = Procedure("direct", (), ("or", DONE, ("call", "main")))
        deeper = Procedure("deeper", BLOCK, ("seq", ("call", "direct"), ("run", "b")))
        by_wrap = Procedure("bywrap", (), ("wrap", ("with", "deeper"), DONE))
        handed = Procedure("handed", (), ("call", "deeper", ("call", "other")))
        other = Procedure("other", (), DONE)
        program = main(DONE, direct, deeper, by_wrap, handed, other)
        for name, many in (("main", 0), ("direct", 0), ("deeper", 1), ("bywrap", 0), ("handed", 0)):
            self.assert_raises(InvalidOperation, caller_of, program, name, (0,) * many)
            self.assert_raises(InvalidOperation, caller_of, program, name, None)
        self.check(program, "other", ())

    def test_errors(self):
        for value in anything():
            if value not in (FLIPS, LOCKS):
                self.assert_raises(InvalidProgram, caller_of, value, 5, 5)
        for name in no_names() + ["nowhere"]:
            self.assert_raises(UnknownName, caller_of, LOCKS, name, 5, name=name)
        for name in ("again", "deep", "main"):
            self.assert_raises(InvalidOperation, caller_of, LOCKS, name, 5)
        for value in anything():
            if value != (0,):
                self.assert_raises(InvalidMeaning, caller_of, LOCKS, "locked", value)
        for meanings in ((), (16,), (-1,), (True,), (0, 0), [0], 0, ((0,),), (None,), ("0",)):
            self.assert_raises(InvalidMeaning, caller_of, LOCKS, "locked", meanings)
        self.assert_raises(InvalidMeaning, caller_of, main(DONE, Procedure("p", (), DONE)), "p", (0,))
        self.assert_raises(InvalidOperation, caller_of, LOOP, "main", ())

    def test_no_relations_are_looked_for(self):
        # There are far more than 800 contexts, but no error tells so.
        program = crowd(9, 9)
        self.assertEqual(caller_of(program, "one", (3,))["main"].uses, ("one",))
        self.assertEqual(caller_of(program, "pair", (3, 4, 5))["main"].uses, ("pair",))
        self.assertEqual(len(PAIR.kinds), 3)
        self.assertEqual(len(DEEDS), 9)


class TimeTest(PromiseTest):
    def test_answers_are_quick(self):
        begin = time.perf_counter()
        for relation in range(512):
            block_of(3, relation)
        for table in monotone_tables(3, 100):
            if terms_by_the_document(table) <= 40:
                wrap_of(2, "w", table)
        self.assertLess(time.perf_counter() - begin, 5)

    def test_where_all_is_defined(self):
        for name in ("block_of", "wrap_of", "caller_of"):
            self.assertEqual(getattr(made, name).__module__, "blockshanded.same.made")


class ExampleTest(PromiseTest):
    def test_examples(self):
        nolock = wrap_of(2, "nolock", (0,) * 8 + (1,) * 8)
        self.assert_same(
            [is_term(block_of(3, 300), ()), reckoned(Program(2, Procedure("main", (), block_of(2, 11))), ("main", ()), {}),
             nolock.kinds, are_alike(LOCKS.with_procedure(nolock), "nolock", "locked")],
            [True, 11, ("block",), True])
        self.assert_same(
            [ends(caller_of(BOTH, "twice", (6,)), 0), ends(caller_of(BOTH, "once", (6,)), 0),
             can_end(caller_of(LOCKS, "locked", (9,)), 0, 0)],
            [(0,), (1,), True])
        self.assert_same(book_of(caller_of(LOCKS, "locked", (9,)))[MAIN], LOCK_TABLE[9])


if __name__ == "__main__":
    unittest.main()
