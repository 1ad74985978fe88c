"""Stage 12: `entries_of`, `are_alike`, `groups_alike`, `telling` and `is_telling`, [0.17]."""

import itertools
import time
import unittest

from blockshanded.ask.ends import ends
from blockshanded.base.procedures import Procedure
from blockshanded.base.programs import Program
from blockshanded.errors import InvalidOperation, InvalidProgram, TooMany, UnknownName
from blockshanded.mean.books import book_of, true_relation
from blockshanded.mean.spaces import Space
from blockshanded.same import tables
from blockshanded.same.made import caller_of
from blockshanded.same.tables import are_alike, entries_of, groups_alike, is_telling, telling
from tests.crowds import ALL, BRANCH, DEEDS, PAIR, THREE
from tests.long_runs import DONE, main
from tests.random_programs import random_program
from tests.samples import FLIP, FLIPS, LOCKED, LOCKS, LOOP, SKIP, TWICE, PromiseTest, anything, no_names
from tests.slowly import Slow

ONCE = Procedure("once", (("b", "block"),), ("run", "b"))
BOTH = FLIPS.with_procedure(ONCE)
BLOCK = (("b", "block"),)
TWO = (("x", "block"), ("y", "block"))
TRIPLE = TWO + (("z", "block"),)
WRAP = (("w", "wrap"),)
LOCK_TABLE = (0,) * 8 + (1,) * 8


def with_others(*procedures, modes=2):
    """A program with an empty main procedure."""
    return Program(modes, Procedure("main", (), DONE), *procedures)


def has_blocks(procedure):
    return "wrap" not in procedure.kinds


def slow_entries(program, name):
    """The entries, each found by the words of the document."""
    many = 2 ** (program.modes ** 2)
    roots = [(name, meanings) for meanings in itertools.product(range(many), repeat=len(program[name].kinds))]
    slow = Slow(program)
    return {root[1]: slow.book(root=root)[root] for root in roots}


class EntriesTest(PromiseTest):
    def test_procedures_of_the_document(self):
        self.assert_same(entries_of(LOCKS, "locked"), {(relation,): LOCK_TABLE[relation] for relation in range(16)})
        space = Space(2)
        self.assert_same(entries_of(BOTH, "twice"), {(one,): space.followed(one, one) for one in range(16)})
        self.assert_same(entries_of(BOTH, "once"), {(one,): one for one in range(16)})

    def test_procedures_without_parameters(self):
        self.assert_same(entries_of(FLIPS, "main"), {(): 15})
        self.assert_same(entries_of(LOOP, "main"), {(): 0})
        self.assert_same(entries_of(SKIP, "lost"), {(): 1})
        self.assert_same(entries_of(LOCKS, "main"), {(): 1})

    def test_all_modes_and_numbers_of_parameters(self):
        for modes, parameters in ((1, BLOCK), (1, TWO), (1, TRIPLE), (2, BLOCK), (2, TWO), (3, BLOCK)):
            names = [name for name, _ in parameters]
            body = ("or", ("seq",) + tuple(("run", name) for name in names), ("run", names[-1]))
            program = with_others(Procedure("p", parameters, body), modes=modes)
            entries, space = entries_of(program, "p"), Space(modes)
            self.assertEqual(list(entries), list(itertools.product(range(space.size), repeat=len(names))))
            for meanings, relation in list(entries.items())[::7]:
                wanted = space.same
                for meaning in meanings:
                    wanted = space.followed(wanted, meaning)
                self.assert_same(relation, space.either(wanted, meanings[-1]))

    def test_procedures_that_call_themselves(self):
        again = Procedure("again", BLOCK, ("or", DONE, ("seq", ("run", "b"), ("call", "again", ("run", "b")))))
        ping = Procedure("ping", BLOCK, ("or", ("run", "b"), ("call", "pong", ("seq", ("run", "b"), FLIP))))
        pong = Procedure("pong", BLOCK, ("or", ("do", "go", (0, 0)), ("call", "ping", ("seq", FLIP, ("run", "b")))))
        program = with_others(again, ping, pong)
        for name in ("again", "ping", "pong"):
            self.assert_same(entries_of(program, name), slow_entries(program, name))

    def test_procedures_that_hand_wraps(self):
        user = Procedure("user", WRAP, ("wrap", ("own", "w"), ("do", "go", (1, None))))
        begin = Procedure("begin", BLOCK, ("or", ("call", "user", ("with", "locked")), ("wrap", ("with", "locked"), ("run", "b"))))
        program = with_others(user, begin, LOCKED)
        self.assert_same(entries_of(program, "begin"), slow_entries(program, "begin"))

    def test_random_programs(self):
        many = 0
        for seed in range(45):
            program = random_program(seed)
            if program.modes > 2:
                continue
            for procedure in program.procedures:
                if has_blocks(procedure) and len(procedure.kinds) < 2:
                    try:
                        entries = entries_of(program, procedure.named)
                    except TooMany:
                        continue
                    many += 1
                    self.assert_same(entries, slow_entries(program, procedure.named))
        self.assertGreater(many, 40)

    def test_each_is_a_true_relation(self):
        for program, name in ((BOTH, "twice"), (LOCKS, "locked")):
            for meanings, relation in entries_of(program, name).items():
                self.assert_same(true_relation(program, (name, meanings)), relation)

    def test_monotone(self):
        for seed in range(60):
            program = random_program(seed)
            space = Space(program.modes)
            for procedure in program.procedures:
                if has_blocks(procedure) and len(procedure.kinds) == 1 and program.modes < 3:
                    try:
                        entries = entries_of(program, procedure.named)
                    except TooMany:
                        continue
                    self.assertIs(space.is_monotone(tuple(entries.values())), True)

    def test_the_table_tells_the_ends_for_all_wraps(self):
        # k79: what uses a wrap ends just as its table tells, whichever procedure the wrap is of.
        use = Procedure("use", WRAP, ("wrap", ("own", "w"), ("wrap", ("own", "w"), ("do", "go", (1, None)))))
        for wrap in (TWICE, LOCKED, ONCE, Procedure("odd", BLOCK, ("or", ("seq", ("run", "b"), FLIP), ("call", "main")))):
            program = Program(2, Procedure("main", (), ("call", "use", ("with", wrap.named))), use, wrap)
            table = tuple(entries_of(program, wrap.named).values())
            self.assert_same(true_relation(program, ("use", (table,))), book_of(program)[("main", ())])
            self.assert_same(true_relation(program, ("use", (table,))), table[table[2]])

    def test_errors(self):
        for value in anything():
            if value not in (FLIPS, LOCKS):
                self.assert_raises(InvalidProgram, entries_of, value, 5)
        for name in no_names() + ["nowhere", "deeper"]:
            self.assert_raises(UnknownName, entries_of, LOCKS, name, name=name)
        for name in ("again", "deep"):
            self.assert_raises(InvalidOperation, entries_of, LOCKS, name)
        mixed = with_others(Procedure("p", TWO[:1] + WRAP + TWO[1:], DONE))
        self.assert_raises(InvalidOperation, entries_of, mixed, "p")

    def test_where_all_is_defined(self):
        for name in ("entries_of", "are_alike", "groups_alike", "telling", "is_telling"):
            self.assertEqual(getattr(tables, name).__module__, "blockshanded.same.tables")


class TooManyTest(PromiseTest):
    def test_tuples(self):
        for modes, parameters, many in ((2, TRIPLE, 4096), (3, TWO, 512 ** 2), (3, TRIPLE, 512 ** 3)):
            program = with_others(Procedure("p", parameters, DONE), Procedure("q", parameters, DONE), modes=modes)
            self.assertGreater(many, 800)
            self.assert_raises(TooMany, entries_of, program, "p", limit=800)
            self.assert_raises(TooMany, are_alike, program, "p", "q", limit=800)
            self.assert_raises(TooMany, telling, program, "p", "p", limit=800)
            self.assert_raises(TooMany, is_telling, program, "p", "q", 5, limit=800)
            self.assert_raises(TooMany, groups_alike, program, limit=800)
        for modes, parameters in ((1, TRIPLE), (2, TWO), (3, BLOCK)):
            program = with_others(Procedure("p", parameters, DONE), modes=modes)
            self.assertEqual(set(entries_of(program, "p").values()), {Space(modes).same})

    def crowded(self, single):
        """A procedure p with 512 tuples that needs 777 contexts and so many single ones, up to 26."""
        # Four procedures are handed 64 blocks each, which end in two of the modes; "s" is handed eight that end in one.
        two = ("seq", ("run", "b"), ("do", "go", (0, 1, None)))
        ends_in_one = ("seq", ("run", "b"), ("do", "go", (0, None, None)))
        calls = [("call", name, two) for name in "tuvw"] + [("call", "s", ends_in_one), ("call", "part")]
        tables_left = [table for table in itertools.product((1, 2, None), repeat=3) if table != (None, None, None)]
        singles = [("call", "s", ("do", "go", table)) for table in tables_left][:single]
        part = Procedure("part", (), ("or", DONE) + tuple(singles[9:]))
        others = [Procedure(name, BLOCK, ("run", "b")) for name in "tuvws"]
        return with_others(Procedure("p", BLOCK, ("or",) + tuple(calls + singles[:9])), part, *others, modes=3)

    def test_contexts_just_800_and_one_more(self):
        for single in (0, 9, 20, 23, 24, 26):
            program = self.crowded(single)
            wanted = 512 + 4 * 64 + 8 + 1 + single
            if wanted <= 800:
                self.assertEqual(len(entries_of(program, "p")), 512)
                self.assertIs(are_alike(program, "p", "t"), False)
                self.assertIs(are_alike(program, "p", "p"), True)
                self.assertIsNot(telling(program, "t", "p"), None)
                self.assertEqual(len(groups_alike(program)), 3 + (single > 9))
            else:
                self.assertIn(wanted, (801, 803))
                self.assertEqual(len(entries_of(program, "t")), 512)
                self.assert_raises(TooMany, entries_of, program, "p", limit=800)
                for one, other in (("p", "t"), ("t", "p"), ("p", "p")):
                    self.assert_raises(TooMany, are_alike, program, one, other, limit=800)
                    self.assert_raises(TooMany, telling, program, one, other, limit=800)
                    self.assert_raises(TooMany, is_telling, program, one, other, None, limit=800)
                self.assert_raises(TooMany, groups_alike, program, limit=800)
        self.assertEqual(512 + 4 * 64 + 8 + 1 + 23, 800)

    def test_more_contexts_than_tuples(self):
        # 16 tuples, three rows of 16 contexts for each of them, and the procedure with the tables.
        rows = [("with", "pair", ("run", "b"), deed) for deed in DEEDS[:3]]
        others = [("with", "pair", deed, ("run", "b")) for deed in DEEDS[:3]]
        program = with_others(Procedure("first", BLOCK, ("call", "three", *rows)), PAIR, THREE,
                              Procedure("second", BLOCK, DONE), Procedure("single", BLOCK, DONE))
        self.assertEqual(len(entries_of(program, "first")), 16)
        crowded = program.with_procedure(Procedure("first", BLOCK, ("or", ("call", "three", *rows), ("call", "three", *others))))
        # Six rows for each of 16 blocks are 1536 contexts; the few that are the same do not make up for this.
        self.assert_raises(TooMany, entries_of, crowded, "first", limit=800)
        self.assert_raises(TooMany, are_alike, crowded, "second", "first", limit=800)
        self.assert_raises(TooMany, are_alike, crowded, "first", "second", limit=800)
        self.assert_raises(TooMany, groups_alike, crowded, limit=800)
        self.assertEqual(len(entries_of(crowded, "second")), 16)
        self.assertIs(are_alike(crowded, "second", "single"), True)

    def test_contexts_of_each_procedure_are_counted_alone(self):
        helpers = [Procedure(name, BLOCK, ("call", name + name, ("run", "b"))) for name in ("a", "b")]
        inner = [Procedure(name + name, BLOCK, ("run", "b")) for name in ("a", "b")]
        program = with_others(*helpers, *inner, modes=3)
        # Each of them needs 1024 contexts.
        self.assert_raises(TooMany, are_alike, program, "a", "b", limit=800)
        self.assert_raises(TooMany, are_alike, program, "aa", "b", limit=800)
        # Each of these needs 512, both 1024.
        self.assertIs(are_alike(program, "aa", "bb"), True)
        self.assertIsNone(telling(program, "aa", "bb"))

    def test_behind_all_other_errors(self):
        program = with_others(Procedure("p", TRIPLE, DONE), Procedure("q", TWO, DONE), Procedure("r", WRAP, DONE))
        self.assert_raises(InvalidOperation, are_alike, program, "p", "q")
        self.assert_raises(InvalidOperation, are_alike, program, "p", "r")
        self.assert_raises(InvalidOperation, are_alike, program, "r", "p")
        self.assert_raises(UnknownName, are_alike, program, "p", "nowhere", name="nowhere")
        self.assert_raises(TooMany, are_alike, program, "p", "p", limit=800)


class AlikeTest(PromiseTest):
    def test_pairs(self):
        one_mode = with_others(ONCE, TWICE, modes=1)
        self.assertIs(are_alike(one_mode, "once", "twice"), True)
        self.assertIs(are_alike(BOTH, "once", "twice"), False)
        self.assertIs(are_alike(BOTH, "once", "once"), True)
        self.assertIs(are_alike(BOTH, "main", "main"), True)
        both = Procedure("both", BLOCK, ("or", ("run", "b"), ("call", "both", ("run", "b"))))
        self.assertIs(are_alike(BOTH.with_procedure(both), "both", "once"), True)
        self.assertIs(are_alike(BOTH.with_procedure(both), "both", "twice"), False)

    def test_alike_with_each_deed_and_not_alike(self):
        # [0.15]: a deed leads from a mode to one mode at most, a block with choices to both.
        stuck = Procedure("stuck", BLOCK, ("do", "go", (None, None)))
        ways = [("seq", ("do", "a", (0, None)), ("run", "b"), ("do", "c", (back, None))) for back in (0, 1)]
        both = Procedure("both", BLOCK, ("seq", ("do", "a", (0, None)), ("run", "b"), ("do", "c", (None, 0)), ("run", "b"),
                                         ("do", "c", (0, None))))
        program = with_others(stuck, both, Procedure("ways", BLOCK, ("or",) + tuple(ways)))
        entries, nothing = entries_of(program, "both"), entries_of(program, "stuck")
        for one in (None, 0, 1):
            for other in (None, 0, 1):
                deed = sum(2 ** (mode * 2 + end) for mode, end in enumerate((one, other)) if end is not None)
                self.assertEqual(entries[(deed,)], nothing[(deed,)])
        self.assertIs(are_alike(program, "both", "stuck"), False)
        self.assertEqual(telling(program, "both", "stuck")[1], (0, 0))

    def test_words_do_not_matter(self):
        left = Procedure("left", BLOCK, ("seq", ("do", "a", (1, 0)), ("run", "b")))
        right = Procedure("right", BLOCK, ("seq", ("do", "c", (1, 0)), ("run", "b")))
        self.assertIs(are_alike(with_others(left, right), "left", "right"), True)

    def test_by_entries(self):
        for seed in range(80):
            program = random_program(seed)
            own = [procedure for procedure in program.procedures if has_blocks(procedure)]
            for one in own:
                for other in own:
                    if len(one.kinds) == len(other.kinds):
                        try:
                            entries = [entries_of(program, one.named), entries_of(program, other.named)]
                        except TooMany:
                            self.assert_raises(TooMany, are_alike, program, one.named, other.named, limit=800)
                            continue
                        self.assertIs(are_alike(program, one.named, other.named), entries[0] == entries[1])

    def test_no_caller_parts_what_is_alike(self):
        again = Procedure("again", BLOCK, ("or", ("run", "b"), ("seq", ("call", "again", ("run", "b")), FLIP, FLIP)))
        program = with_others(ONCE, again)
        self.assertIs(are_alike(program, "once", "again"), True)
        callers = [("call", "NAME", ("or", FLIP, DONE)), ("seq", ("call", "NAME", FLIP), ("do", "go", (1, None))),
                   ("call", "NAME", ("call", "NAME", ("do", "go", (None, 1)))), ("wrap", ("with", "NAME"), FLIP)]
        for caller in callers:
            found = []
            for name in ("once", "again"):
                body = eval(repr(caller).replace("NAME", name))
                found.append(book_of(program.with_procedure(Procedure("main", (), body)))[("main", ())])
            self.assertEqual(found[0], found[1])

    def test_errors(self):
        for call in (are_alike, telling):
            for value in anything():
                if value not in (FLIPS, LOCKS):
                    self.assert_raises(InvalidProgram, call, value, 5, 5)
            for name in no_names() + ["nowhere"]:
                self.assert_raises(UnknownName, call, LOCKS, name, 7, name=name)
                self.assert_raises(UnknownName, call, LOCKS, "locked", name, name=name)
                self.assert_raises(UnknownName, call, LOCKS, "deep", name, name=name)
            for one, other in (("deep", "deep"), ("locked", "again"), ("again", "locked"), ("main", "locked"), ("locked", "main")):
                self.assert_raises(InvalidOperation, call, LOCKS, one, other)


class GroupsTest(PromiseTest):
    def test_groups(self):
        self.assert_same(groups_alike(BOTH), (("main",), ("once",), ("twice",)))
        self.assert_same(groups_alike(LOCKS), (("locked",), ("main",)))
        self.assert_same(groups_alike(with_others(ONCE, TWICE, modes=1)), (("main",), ("once", "twice")))
        self.assert_same(groups_alike(LOOP), (("main",),))

    def test_numbers_of_parameters(self):
        # All of them have the same relation for everything.
        procedures = [Procedure("zero", (), DONE), Procedure("one", BLOCK, DONE), Procedure("uno", BLOCK, DONE),
                      Procedure("two", TWO, DONE), Procedure("duo", TWO, DONE), Procedure("wrap", WRAP, DONE)]
        for modes in (1, 2):
            program = with_others(*procedures, modes=modes)
            self.assert_same(groups_alike(program), (("duo", "two"), ("main", "zero"), ("one", "uno")))

    def test_random_programs(self):
        for seed in range(80):
            program = random_program(seed)
            try:
                groups = groups_alike(program)
            except TooMany:
                continue
            own = sorted(procedure.named for procedure in program.procedures if has_blocks(procedure))
            self.assertEqual(sorted(name for group in groups for name in group), own)
            self.assertEqual(list(groups), sorted(groups))
            for group in groups:
                self.assertEqual(list(group), sorted(group))
            for one in own:
                for other in own:
                    if len(program[one].kinds) == len(program[other].kinds):
                        together = any(one in group and other in group for group in groups)
                        self.assertIs(are_alike(program, one, other), together)

    def test_errors(self):
        for value in anything():
            if value not in (FLIPS, LOCKS):
                self.assert_raises(InvalidProgram, groups_alike, value)


class TellingTest(PromiseTest):
    def correct(self, program, one, other):
        """All values that tell two procedures."""
        entries, others = entries_of(program, one), entries_of(program, other)
        modes = range(program.modes)
        return [(meanings, (m, e)) for meanings in entries for m in modes for e in modes
                if (entries[meanings] ^ others[meanings]) >> (m * program.modes + e) & 1]

    def check(self, program, one, other):
        correct = self.correct(program, one, other)
        found = telling(program, one, other)
        if not correct:
            self.assertIsNone(found)
        else:
            self.assertIn(found, correct)
            self.assert_same(found, correct[correct.index(found)])
        meanings = list(entries_of(program, one))
        for given in meanings[::1 + len(meanings) // 40]:
            for m in range(-1, program.modes + 1):
                for e in range(-1, program.modes + 1):
                    self.assertIs(is_telling(program, one, other, (given, (m, e))), (given, (m, e)) in correct)

    def test_small_programs(self):
        self.check(BOTH, "once", "twice")
        self.check(BOTH, "twice", "once")
        self.check(BOTH, "once", "once")
        pairs = with_others(Procedure("p", TWO, ("seq", ("run", "x"), ("run", "y"))),
                            Procedure("q", TWO, ("seq", ("run", "y"), ("run", "x"))), modes=1)
        self.check(pairs, "p", "q")
        pairs = Program(2, *pairs.procedures)
        self.check(pairs, "p", "q")
        first = with_others(Procedure("p", (), FLIP), Procedure("q", (), DONE))
        self.check(first, "p", "q")
        self.assert_same(telling(first, "p", "p"), None)

    def test_three_parameters_and_three_modes(self):
        program = with_others(Procedure("p", TRIPLE, ("run", "x")), Procedure("q", TRIPLE, ("or", ("run", "z"), ("run", "x"))),
                              modes=1)
        self.check(program, "p", "q")
        turn = ("do", "turn", (1, 2, 0))
        program = with_others(Procedure("p", BLOCK, ("seq", turn, ("run", "b"))),
                              Procedure("q", BLOCK, ("seq", ("run", "b"), turn)), modes=3)
        self.check(program, "p", "q")

    def test_a_caller_that_hands_blocks_tells_them(self):
        for program, one, other in ((BOTH, "once", "twice"), (with_others(ONCE, LOCKED), "once", "locked")):
            meanings, (start, end) = telling(program, one, other)
            found = [end in ends(caller_of(program, name, meanings), start) for name in (one, other)]
            self.assertNotEqual(found[0], found[1])

    def test_near_ones(self):
        meanings, pair = (6,), (0, 1)
        self.assertIs(is_telling(BOTH, "once", "twice", (meanings, pair)), True)
        for value in ((meanings, pair, pair), (meanings,), [meanings, pair], (pair, meanings), ((meanings, pair),),
                      ((6, 6), pair), ((), pair), ([6], pair), (6, pair), ((16,), pair), ((-1,), pair), (("6",), pair),
                      (meanings, [0, 1]), (meanings, (0,)), (meanings, (0, 1, 0)), (meanings, 1), (meanings, (0, 2)),
                      (meanings, (2, 0)), (meanings, (-1, 1)), (meanings, (False, 1)), (meanings, (0, True)),
                      (meanings, None), (None, None), ((9,), (0, 0)), ((6.0,), pair)[1:], (((6,),), pair)):
            self.assertIs(is_telling(BOTH, "once", "twice", value), False)
        self.assertIs(is_telling(with_others(ONCE, TWICE), "once", "twice", ((True,), (0, 0))), False)
        left = with_others(ONCE, LOCKED)
        self.assertIs(is_telling(left, "once", "locked", ((1,), (0, 0))), True)
        self.assertIs(is_telling(left, "once", "locked", ((True,), (0, 0))), False)

    def test_values_of_all_kinds(self):
        for value in anything():
            self.assertIs(is_telling(BOTH, "once", "twice", value), False)
            self.assertIs(is_telling(BOTH, "once", "once", value), False)
            self.assertIs(is_telling(BOTH, "once", "twice", ((6,), value)), False)
            self.assertIs(is_telling(BOTH, "once", "twice", (value, (0, 1))), False)
            self.assertIs(is_telling(BOTH, "once", "twice", ((value,), (5, 5))), False)

    def test_errors_of_the_judge(self):
        for value in anything():
            if value not in (FLIPS, LOCKS):
                self.assert_raises(InvalidProgram, is_telling, value, 5, 5, 5)
        for name in no_names() + ["nowhere"]:
            self.assert_raises(UnknownName, is_telling, BOTH, name, 7, 5, name=name)
            self.assert_raises(UnknownName, is_telling, BOTH, "once", name, 5, name=name)
        self.assert_raises(InvalidOperation, is_telling, LOCKS, "deep", "deep", 5)
        self.assert_raises(InvalidOperation, is_telling, LOCKS, "main", "locked", ((), (0, 0)))


class ModesExchangedTest(PromiseTest):
    def turned(self, part, turn):
        """A term or wrap with the modes exchanged in all tables."""
        if part[0] == "do":
            table = [part[2][mode] for mode in turn]
            return part[:2] + (tuple(None if entry is None else turn.index(entry) for entry in table),)
        return tuple(self.turned(inner, turn) if isinstance(inner, tuple) else inner for inner in part)

    def test_modes_exchanged_in_the_whole_program(self):
        # k11: then the ends are exchanged, too.
        for seed in range(100):
            program = random_program(seed)
            for turn in list(itertools.permutations(range(program.modes)))[1:3]:
                procedures = [Procedure(own.named, own.parameters, self.turned(own.body, turn)) for own in program.procedures]
                other = Program(program.modes, *procedures)
                try:
                    for place, mode in enumerate(turn):
                        wanted = tuple(sorted(turn.index(end) for end in ends(program, mode)))
                        self.assert_same(ends(other, place), wanted)
                except TooMany:
                    self.assert_raises(TooMany, ends, other, 0, limit=800)


class TimeTest(PromiseTest):
    def test_hundreds_of_entries(self):
        deeds = [("do", "a", tuple(e if m == mode else None for m in range(3))) for mode in range(3) for e in range(3)]
        body = ("or", ("run", "b")) + tuple(("call", "p", ("or", ("run", "b"), deed)) for deed in deeds)
        same = ("or", ("run", "b")) + tuple(("call", "q", ("or", ("run", "b"), deed)) for deed in deeds[::-1])
        program = with_others(Procedure("p", BLOCK, body), Procedure("q", BLOCK, same), modes=3)
        begin = time.perf_counter()
        for _ in range(5):
            self.assertIs(are_alike(program, "p", "q"), True)
            self.assertEqual(len(groups_alike(program)), 2)
        self.assertLess(time.perf_counter() - begin, 5)


class ExampleTest(PromiseTest):
    def test_examples(self):
        self.assert_same(
            [len(entries_of(BOTH, "twice")), entries_of(BOTH, "twice")[(6,)], are_alike(BOTH, "once", "twice"),
             groups_alike(BOTH), are_alike(Program(1, Procedure("main", (), ("seq",)), ONCE, TWICE), "once", "twice")],
            [16, 9, False, (("main",), ("once",), ("twice",)), True])
        self.assert_same(
            [is_telling(BOTH, "once", "twice", ((6,), (0, 1))), is_telling(BOTH, "once", "twice", ((6,), (0, 0))),
             is_telling(BOTH, "once", "twice", ((9,), (0, 0))), telling(BOTH, "twice", "twice")],
            [True, True, False, None])


if __name__ == "__main__":
    unittest.main()
