"""Stage 19: procedures for all callers, with what lasts, [19.1] and [19.2]."""

import itertools
import random
import time
import unittest

from blockshanded.ask.ends import ends
from blockshanded.base.procedures import Procedure, is_term
from blockshanded.base.programs import Program
from blockshanded.errors import InvalidMeaning, InvalidNumber, InvalidOperation, InvalidProgram, TooMany, UnknownName
from blockshanded.last import callers
from blockshanded.last.callers import (
    are_fully_alike, full_entries, fully_telling, is_fully_telling, lasting_block, lasting_caller_of, loop_of)
from blockshanded.last.endless import lasting_modes, true_lasting
from blockshanded.mean.books import true_relation
from blockshanded.same.tables import are_alike, entries_of
from tests.crowds import crowd
from tests.lasting_programs import BLOCK, ONCE, ONLY, SPIN, USE, WRAP
from tests.long_runs import DONE, main
from tests.random_programs import random_program
from tests.samples import FLIP, FLIPS, GREATEST, LOCKED, LOCKS, LOOP, TWICE, PromiseTest, anything, no_names
from tests.slowly_lasting import SlowLasting
from tests.test_callers import BOTH
from tests.test_made import depth_of, parts_of

TWO = (("x", "block"), ("y", "block"))
TRIPLE = TWO + (("z", "block"),)
LATE = Procedure("late", BLOCK, ("seq", ("run", "b"), ("call", "spin")))
SOON = Procedure("soon", BLOCK, ("call", "spin"))
NEVER = Procedure("never", (), ("do", "go", (None,)))
SPINS = Program(1, Procedure("main", (), DONE), loop_of("spin"), NEVER, LATE, SOON)


def full_meanings(modes):
    return [(relation, lasting) for relation in range(2 ** (modes * modes)) for lasting in range(2 ** modes)]


def slow_entries(program, name):
    """The full entries, found by the words of the document."""
    slow, found = SlowLasting(program), {}
    for meanings in itertools.product(full_meanings(program.modes), repeat=len(program[name].kinds)):
        plain = (name, tuple(meaning[0] for meaning in meanings))
        found[meanings] = (slow.relation(plain), slow.book(root=(name, meanings))[(name, meanings)])
    return found


class LoopTest(PromiseTest):
    def test_loops(self):
        for name in ("a", "spin", "main", "abcdefgh"):
            self.assert_same(loop_of(name), Procedure(name, (), ("call", name)))
        self.assert_same(lasting_modes(Program(3, loop_of("main"))), (0, 1, 2))

    def test_errors(self):
        for name in no_names():
            self.assert_raises(InvalidOperation, loop_of, name)

    def test_where_all_is_defined(self):
        for name in ("loop_of", "lasting_block", "full_entries", "are_fully_alike", "fully_telling", "is_fully_telling", "lasting_caller_of"):
            self.assertEqual(getattr(callers, name).__module__, "blockshanded.last.callers")


class BlockTest(PromiseTest):
    def check(self, modes, relation, lasting):
        term = lasting_block(modes, relation, lasting, "spin")
        self.assertIs(is_term(term, ()), True)
        parts = parts_of(term)
        self.assertLessEqual(len(parts), 40)
        self.assertLessEqual(depth_of(term), 6)
        self.assertLessEqual({part[0] for part in parts}, {"do", "seq", "or", "call"})
        self.assertLessEqual({part for part in parts if part[0] == "call"}, {("call", "spin")})
        self.assertLessEqual({part[1] for part in parts if part[0] == "do"}, {"go"})
        program = Program(modes, Procedure("main", (), term), loop_of("spin"))
        self.assert_same(true_relation(program, ("main", ())), relation)
        self.assert_same(true_lasting(program, ("main", ())), lasting)

    def test_all_pairs_of_one_and_two_modes(self):
        for modes in (1, 2):
            for relation, lasting in full_meanings(modes):
                self.check(modes, relation, lasting)

    def test_pairs_of_three_modes(self):
        for relation in list(range(0, 512, 7)) + [511, 273, 300]:
            for lasting in (0, 1, 5, 7):
                self.check(3, relation, lasting)

    def test_errors(self):
        for value in anything():
            if value not in (1, 2, 3) or isinstance(value, bool):
                self.assert_raises(InvalidNumber, lasting_block, value, -1, -1, 5, value=value)
        for modes, size in ((1, 2), (2, 16), (3, 512)):
            for value in anything() + [size, -1, GREATEST]:
                if not isinstance(value, int) or isinstance(value, bool) or not 0 <= value < size:
                    self.assert_raises(InvalidNumber, lasting_block, modes, value, -1, 5, value=value)
            for value in anything() + [2 ** modes, -1, GREATEST]:
                if not isinstance(value, int) or isinstance(value, bool) or not 0 <= value < 2 ** modes:
                    self.assert_raises(InvalidNumber, lasting_block, modes, size - 1, value, 5, value=value)
        for name in no_names():
            self.assert_raises(InvalidOperation, lasting_block, 2, 0, 0, name)
            self.assert_raises(InvalidOperation, lasting_block, 3, 511, 7, name)


class EntriesTest(PromiseTest):
    def test_one_mode(self):
        self.assert_same(full_entries(SPINS, "late"), {((0, 0),): (0, 0), ((0, 1),): (0, 1), ((1, 0),): (0, 1), ((1, 1),): (0, 1)})
        self.assert_same(full_entries(SPINS, "soon"), {(meaning,): (0, 1) for meaning in full_meanings(1)})
        self.assert_same(full_entries(SPINS, "never"), {(): (0, 0)})
        self.assert_same(full_entries(SPINS, "spin"), {(): (0, 1)})
        self.assert_same(full_entries(SPINS, "main"), {(): (1, 0)})

    def test_numbers_of_parameters(self):
        for many in (1, 2, 3):
            names = [name for name, _ in TRIPLE[:many]]
            bodies = [("seq",) + tuple(("run", name) for name in names), ("or",) + tuple(("run", name) for name in names),
                      ("or", ("seq", ("run", names[-1]), ("call", "p") + tuple(("run", name) for name in names)), ("run", names[0]))]
            for body in bodies:
                program = main(DONE, Procedure("p", TRIPLE[:many], body), modes=1)
                entries = full_entries(program, "p")
                self.assertEqual(list(entries), list(itertools.product(full_meanings(1), repeat=many)))
                self.assert_same(entries, slow_entries(program, "p"))

    def test_two_and_three_modes(self):
        for procedure in (ONCE, TWICE, LOCKED, Procedure("p", BLOCK, ("or", ("seq", ("run", "b"), ONLY, ("call", "p", ("run", "b"))), FLIP))):
            program = main(DONE, procedure)
            entries = full_entries(program, procedure.named)
            self.assertEqual(list(entries), [(meaning,) for meaning in full_meanings(2)])
            self.assert_same(entries, slow_entries(program, procedure.named))
        three = main(("call", "p"), Procedure("p", (), ("or", ("do", "a", (1, 2, None)), ("seq", ("do", "a", (None, 1, 1)), ("call", "p")))), modes=3)
        self.assert_same(full_entries(three, "p"), slow_entries(three, "p"))

    def test_with_wraps_handed_on(self):
        begin = Procedure("begin", BLOCK, ("or", ("call", "use", ("with", "locked")), ("wrap", ("with", "locked"), ("run", "b")),
                                           ("call", "use", ("with", "twin", FLIP)), ("call", "twin", FLIP, ("run", "b"))))
        twin = Procedure("twin", TWO, ("seq", ("run", "y"), ("run", "x")))
        program = main(DONE, USE, LOCKED, begin, twin)
        self.assert_same(full_entries(program, "begin"), slow_entries(program, "begin"))

    def test_random_programs(self):
        many = 0
        for seed in range(200):
            program = random_program(seed)
            for procedure in program.procedures:
                count = len(procedure.kinds)
                if "wrap" in procedure.kinds or program.modes == 3 and count or program.modes == 2 and count > 1:
                    continue
                try:
                    entries = full_entries(program, procedure.named)
                except TooMany:
                    continue
                if program.modes == 1 or seed < 30:
                    many += 1
                    self.assert_same(entries, slow_entries(program, procedure.named))
                for meanings in list(entries)[::9]:
                    self.assert_same(true_lasting(program, (procedure.named, meanings)), entries[meanings][1])
        self.assertGreater(many, 60)

    def test_the_relations_are_those_of_the_entries(self):
        for program, name in ((BOTH, "twice"), (LOCKS, "locked")):
            plain = entries_of(program, name)
            for meanings, (relation, _) in full_entries(program, name).items():
                self.assert_same(relation, plain[tuple(meaning[0] for meaning in meanings)])

    def test_errors(self):
        for value in anything():
            if value not in (FLIPS, LOCKS):
                self.assert_raises(InvalidProgram, full_entries, value, 5)
        for name in no_names() + ["nowhere"]:
            self.assert_raises(UnknownName, full_entries, LOCKS, name, name=name)
        for name in ("again", "deep"):
            self.assert_raises(InvalidOperation, full_entries, LOCKS, name)


class TooManyTest(PromiseTest):
    def test_tuples(self):
        for modes, parameters in ((2, TWO), (2, TRIPLE), (3, BLOCK), (3, TWO)):
            program = main(DONE, Procedure("p", parameters, DONE), Procedure("q", parameters, DONE), modes=modes)
            self.assert_raises(TooMany, full_entries, program, "p", limit=800)
            self.assert_raises(TooMany, are_fully_alike, program, "p", "q", limit=800)
            self.assert_raises(TooMany, fully_telling, program, "p", "p", limit=800)
            self.assert_raises(TooMany, is_fully_telling, program, "p", "q", 5, limit=800)
            self.assertIs(are_fully_alike(program, "main", "main"), True)
        # In two modes there are fewer plain tuples.
        self.assertIs(are_alike(main(DONE, Procedure("p", TWO, DONE)), "p", "p"), True)

    def crowd(self, single):
        """A procedure with 64 tuples that needs 704 other full contexts with them, and two and so many single ones."""
        deeds = [("do", "go", table) for table in itertools.product((None, 0, 1), repeat=2)]
        both = [("or", deeds[one], deeds[other]) for one, other in ((4, 5), (4, 6), (4, 8), (5, 6))]
        calls = tuple(("call", "two", block, ("run", "b")) for block in deeds + both[2:])
        singles = tuple(("call", name, deed) for name in ("one", "uno", "eins") for deed in deeds)
        singles += tuple(("call", "one", block) for block in both)
        part = Procedure("part", (), ("or", DONE) + singles[:18][:single] + (("call", "more"),))
        others = [Procedure(name, BLOCK, ("run", "b")) for name in ("one", "uno", "eins")]
        return main(DONE, Procedure("p", BLOCK, ("or", ("run", "b")) + calls + (("call", "part"),)), Procedure("two", TWO, ("run", "y")),
                    part, Procedure("more", (), ("or", DONE) + singles[18:single]), *others)

    def test_just_800_and_one_more(self):
        for single in (0, 17, 29, 30):
            program = self.crowd(single)
            self.assertEqual(len(full_entries(program, "p")), 64)
            self.assertIs(are_fully_alike(program, "p", "one"), False)
            self.assertIs(are_fully_alike(program, "uno", "one"), True)
        program = self.crowd(31)
        self.assert_raises(TooMany, full_entries, program, "p", limit=800)
        for one, other in (("p", "one"), ("one", "p"), ("p", "p")):
            self.assert_raises(TooMany, are_fully_alike, program, one, other, limit=800)
            self.assert_raises(TooMany, fully_telling, program, one, other, limit=800)
            self.assert_raises(TooMany, is_fully_telling, program, one, other, None, limit=800)
        self.assertIs(are_fully_alike(program, "uno", "one"), True)
        # There are far fewer plain contexts.
        self.assertEqual(len(entries_of(program, "p")), 16)

    def test_true_relations(self):
        base = crowd(9, 9)
        begin = Procedure("begin", (), base["main"].body)
        program = main(DONE, begin, Procedure("other", (), ("call", "begin")), *base.procedures[1:])
        for name in ("begin", "other"):
            self.assert_raises(TooMany, full_entries, program, name, limit=800)
            self.assert_raises(TooMany, are_fully_alike, program, "main", name, limit=800)
        self.assertIs(are_fully_alike(program, "main", "main"), True)

    def test_behind_all_other_errors(self):
        program = main(DONE, Procedure("p", TWO, DONE), Procedure("q", BLOCK, DONE), Procedure("w", WRAP, DONE))
        self.assert_raises(InvalidOperation, are_fully_alike, program, "p", "q")
        self.assert_raises(InvalidOperation, are_fully_alike, program, "p", "w")
        self.assert_raises(UnknownName, are_fully_alike, program, "p", "nowhere", name="nowhere")
        self.assert_raises(TooMany, are_fully_alike, program, "p", "p", limit=800)


class AlikeTest(PromiseTest):
    def test_small_programs(self):
        self.assertIs(are_fully_alike(SPINS, "spin", "never"), False)
        self.assertIs(are_alike(SPINS, "spin", "never"), True)
        self.assertIs(are_fully_alike(SPINS, "late", "soon"), False)
        self.assertIs(are_fully_alike(SPINS, "late", "late"), True)
        self.assertIs(are_fully_alike(BOTH, "once", "twice"), False)
        again = Procedure("again", BLOCK, ("or", ("run", "b"), ("call", "once", ("run", "b"))))
        more = Procedure("more", BLOCK, ("or", ("run", "b"), ("call", "more", ("run", "b"))))
        program = main(DONE, ONCE, again, more)
        self.assertIs(are_fully_alike(program, "once", "again"), True)
        self.assertIs(are_alike(program, "once", "more"), True)
        self.assertIs(are_fully_alike(program, "once", "more"), False)

    def test_alike_for_blocks_that_do_not_last(self):
        # [19.2]: they last alike for all blocks that do not last, and are alike, but not fully.
        stops = Procedure("stops", BLOCK, ("do", "never", (None, None)))
        goes = Procedure("goes", BLOCK, ("seq", ("run", "b"), ("do", "never", (None, None))))
        program = main(DONE, stops, goes)
        self.assertIs(are_alike(program, "stops", "goes"), True)
        self.assertIs(are_fully_alike(program, "stops", "goes"), False)
        meanings, mode = fully_telling(program, "stops", "goes")
        self.assertGreater(meanings[0][1], 0)
        self.assertIn(mode, (0, 1))

    def test_what_lasts_anew_by_an_exchange(self):
        # [19.2]: "slow" calls "fast", and is fully alike.
        slow, fast = Procedure("slow", BLOCK, ("call", "fast", ("run", "b"))), Procedure("fast", BLOCK, ("run", "b"))
        self.assertIs(are_fully_alike(main(("call", "fast", FLIP), slow, fast), "slow", "fast"), True)

    def test_by_entries(self):
        many = 0
        for seed in range(160):
            program = random_program(seed)
            own = [one for one in program.procedures if "wrap" not in one.kinds]
            for one, other in itertools.product(own, repeat=2):
                if len(one.kinds) != len(other.kinds):
                    continue
                try:
                    entries = [full_entries(program, one.named), full_entries(program, other.named)]
                except TooMany:
                    self.assert_raises(TooMany, are_fully_alike, program, one.named, other.named, limit=800)
                    continue
                many += 1
                self.assertIs(are_fully_alike(program, one.named, other.named), entries[0] == entries[1])
        self.assertGreater(many, 150)

    def test_no_caller_parts_what_is_fully_alike(self):
        again = Procedure("again", BLOCK, ("or", ("run", "b"), ("call", "once", ("run", "b"))))
        program = main(DONE, ONCE, again, SPIN)
        blocks = [lasting_block(2, relation, lasting, "spin") for relation in (0, 2, 6, 15) for lasting in range(4)]
        for block in blocks:
            found = []
            for name in ("once", "again"):
                caller = program.with_procedure(Procedure("main", (), ("seq", ("or", DONE, ONLY), ("call", name, block))))
                found.append((ends(caller, 0), ends(caller, 1), lasting_modes(caller)))
            self.assertEqual(found[0], found[1])

    def test_errors(self):
        for call in (are_fully_alike, fully_telling):
            for value in anything():
                if value not in (FLIPS, LOCKS):
                    self.assert_raises(InvalidProgram, call, value, 5, 5)
            for name in no_names() + ["nowhere"]:
                self.assert_raises(UnknownName, call, LOCKS, name, 7, name=name)
                self.assert_raises(UnknownName, call, LOCKS, "deep", name, name=name)
            for one, other in (("deep", "deep"), ("locked", "again"), ("again", "locked"), ("main", "locked"), ("locked", "main")):
                self.assert_raises(InvalidOperation, call, LOCKS, one, other)


class TellingTest(PromiseTest):
    def correct(self, program, one, other):
        """All values that tell two procedures fully."""
        entries, others = full_entries(program, one), full_entries(program, other)
        modes, found = range(program.modes), []
        for meanings in entries:
            (relation, lasting), (second, less) = entries[meanings], others[meanings]
            found += [(meanings, (m, e)) for m in modes for e in modes if (relation ^ second) >> (m * program.modes + e) & 1]
            found += [(meanings, m) for m in modes if (lasting ^ less) >> m & 1]
        return found

    def check(self, program, one, other):
        correct, found = self.correct(program, one, other), fully_telling(program, one, other)
        if correct:
            self.assertIn(found, correct)
            self.assert_same(found, correct[correct.index(found)])
        else:
            self.assertIsNone(found)
        for meanings in list(full_entries(program, one))[::5]:
            points = list(range(-1, program.modes + 1)) + list(itertools.product(range(-1, program.modes + 1), repeat=2))
            for point in points:
                self.assertIs(is_fully_telling(program, one, other, (meanings, point)), (meanings, point) in correct)

    def test_pairs(self):
        self.check(SPINS, "spin", "never")
        self.check(SPINS, "late", "soon")
        self.check(SPINS, "soon", "late")
        self.check(SPINS, "never", "main")
        self.check(SPINS, "late", "late")
        self.check(BOTH, "once", "twice")
        self.check(main(DONE, ONCE, LOCKED), "once", "locked")
        pair = main(DONE, Procedure("p", TWO, ("seq", ("run", "x"), ("run", "y"))), Procedure("q", TWO, ("seq", ("run", "y"), ("run", "x"))), modes=1)
        self.check(pair, "p", "q")
        three = main(DONE, Procedure("p", (), ("do", "a", (1, 2, None))), Procedure("q", (), ("seq", ("do", "a", (1, 2, 1)), ("call", "q"))), modes=3)
        self.check(three, "p", "q")

    def test_random_programs(self):
        for seed in range(60):
            program = random_program(seed)
            own = [one for one in program.procedures if "wrap" not in one.kinds]
            for one, other in itertools.combinations(own, 2):
                if len(one.kinds) == len(other.kinds):
                    try:
                        self.check(program, one.named, other.named)
                    except TooMany as error:
                        self.assertEqual(error.limit, 800)

    def test_near_ones(self):
        right = (((0, 0),), 0)
        self.assertIs(is_fully_telling(SPINS, "late", "soon", right), True)
        for value in ((((0, 1),), 0), (((0, 0),), 1), (((0, 0),), -1), (((0, 0),), False), (((0, 0),), (0, 0)), (((0, 0),), (0,)), (((0, 0),), None),
                      ((0, 0), 0), (((0, 0), (0, 0)), 0), ((), 0), (((0,),), 0), (((0, 0, 0),), 0), (((2, 0),), 0), (((0, 2),), 0), (((False, 0),), 0),
                      (((0, False),), 0), ([(0, 0)], 0), (([0, 0],), 0), (0, ((0, 0),)), (((0, 0),), 0, 0), (((0, 0),),), [((0, 0),), 0], (((0, 0),), [0])):
            self.assertIs(is_fully_telling(SPINS, "late", "soon", value), False)
        self.assertIs(is_fully_telling(SPINS, "spin", "never", ((), 0)), True)
        self.assertIs(is_fully_telling(SPINS, "spin", "never", ((), False)), False)
        self.assertIs(is_fully_telling(SPINS, "never", "main", ((), (0, 0))), True)
        self.assertIs(is_fully_telling(SPINS, "never", "main", ((), (0, False))), False)
        for value in anything():
            self.assertIs(is_fully_telling(SPINS, "late", "soon", value), False)
            self.assertIs(is_fully_telling(SPINS, "late", "late", value), False)
            self.assertIs(is_fully_telling(SPINS, "late", "soon", (((0, 0),), value)), value == 0 and not isinstance(value, bool))
            self.assertIs(is_fully_telling(SPINS, "late", "soon", (value, 0)), False)

    def test_errors_of_the_judge(self):
        for value in anything():
            if value not in (FLIPS, LOCKS):
                self.assert_raises(InvalidProgram, is_fully_telling, value, 5, 5, 5)
        for name in no_names() + ["nowhere"]:
            self.assert_raises(UnknownName, is_fully_telling, SPINS, name, 7, 5, name=name)
            self.assert_raises(UnknownName, is_fully_telling, SPINS, "late", name, 5, name=name)
        self.assert_raises(InvalidOperation, is_fully_telling, SPINS, "late", "spin", 5)
        self.assert_raises(InvalidOperation, is_fully_telling, LOCKS, "deep", "deep", 5)

    def test_a_main_procedure_tells_them(self):
        for one, other in (("late", "soon"), ("spin", "never"), ("never", "main")):
            if "main" in (one, other):
                continue
            meanings, point = fully_telling(SPINS, one, other)
            found = [lasting_caller_of(SPINS, name, meanings, "again") for name in (one, other)]
            self.assertNotEqual(point in lasting_modes(found[0]), point in lasting_modes(found[1]))


class CallerTest(PromiseTest):
    def check(self, program, name, meanings, loop="zzz"):
        other = lasting_caller_of(program, name, meanings, loop)
        self.assertEqual([own.named for own in other.procedures], [own.named for own in program.procedures] + [loop])
        self.assert_same(other.procedures[-1], loop_of(loop))
        for own in program.procedures:
            if own.named != "main":
                self.assert_same(other[own.named], own)
        plain = (name, tuple(meaning[0] for meaning in meanings))
        relation, lasting = true_relation(program, plain), true_lasting(program, (name, meanings))
        self.assert_same(lasting_modes(other), tuple(mode for mode in range(program.modes) if lasting >> mode & 1))
        for start in range(program.modes):
            self.assert_same(ends(other, start), tuple(end for end in range(program.modes) if relation >> (start * program.modes + end) & 1))

    def test_all_full_meanings(self):
        for meaning in full_meanings(2):
            self.check(BOTH, "twice", (meaning,))
            self.check(LOCKS, "locked", (meaning,))
        for meaning in full_meanings(1):
            self.check(SPINS, "late", (meaning,))

    def test_numbers_of_parameters(self):
        maker = random.Random(4)
        for modes in (1, 2, 3):
            for many in range(4):
                names = [name for name, _ in TRIPLE[:many]]
                program = main(DONE, Procedure("p", TRIPLE[:many], ("seq",) + tuple(("run", name) for name in names)), modes=modes)
                for _ in range(8):
                    meanings = tuple((maker.randrange(2 ** (modes * modes)), maker.randrange(2 ** modes)) for _ in range(many))
                    self.check(program, "p", meanings)

    def test_procedures_that_call_main(self):
        direct = Procedure("direct", (), ("or", DONE, ("call", "main")))
        deeper = Procedure("deeper", BLOCK, ("seq", ("call", "direct"), ("run", "b")))
        handed = Procedure("handed", (), ("wrap", ("with", "deeper"), DONE))
        program = main(DONE, direct, deeper, handed)
        for name in ("main", "direct", "deeper", "handed"):
            self.assert_raises(InvalidOperation, lasting_caller_of, program, name, None, None)

    def test_eight_procedures(self):
        seven = main(DONE, *[Procedure(name, BLOCK, ("run", "b")) for name in "abcdef"])
        self.check(seven, "c", ((6, 2),))
        eight = seven.with_procedure(Procedure("g", BLOCK, DONE))
        self.assert_raises(InvalidProgram, lasting_caller_of, eight, "c", ((6, 2),), "zzz")
        self.assert_raises(InvalidOperation, lasting_caller_of, eight, "c", ((6, 2),), "g")
        self.assert_raises(InvalidOperation, lasting_caller_of, eight, "c", ((6, 2),), "Zzz")
        self.assert_raises(InvalidMeaning, lasting_caller_of, eight, "c", ((6, 4),), "g")

    def test_errors(self):
        for value in anything():
            if value not in (FLIPS, LOCKS):
                self.assert_raises(InvalidProgram, lasting_caller_of, value, 5, 5, 5)
        for name in no_names() + ["nowhere"]:
            self.assert_raises(UnknownName, lasting_caller_of, LOCKS, name, 5, 5, name=name)
        for name in ("again", "deep", "main"):
            self.assert_raises(InvalidOperation, lasting_caller_of, LOCKS, name, 5, "zzz")
        for value in anything() + [(3,), ((3, 4),), ((16, 0),), ((3, 1), (3, 1)), ([3, 1],), ((True, 1),), ((3, True),), [(3, 1)], ((3, 1, 0),)]:
            self.assert_raises(InvalidMeaning, lasting_caller_of, LOCKS, "locked", value, 5)
        for name in no_names() + ["main", "locked", "deep", "again"]:
            self.assert_raises(InvalidOperation, lasting_caller_of, LOCKS, "locked", ((3, 1),), name)
        self.assert_raises(InvalidOperation, lasting_caller_of, LOOP, "main", (), "zzz")


class TimeTest(PromiseTest):
    def test_answers_are_quick(self):
        begin = time.perf_counter()
        program = main(DONE, *[Procedure(name, BLOCK, ("or", ("run", "b"), ("call", other, ("or", ("run", "b"), FLIP))))
                               for name, other in zip("abcdefg", "bcdefga")])
        for _ in range(5):
            self.assertIs(are_fully_alike(program, "a", "d"), True)
            self.assertIs(is_fully_telling(program, "a", "d", (((0, 0),), 1)), False)
        self.assertLess(time.perf_counter() - begin, 8)


class ExampleTest(PromiseTest):
    def test_examples(self):
        spin = Program(1, Procedure("main", (), ("seq",)), loop_of("spin"), Procedure("never", (), ("do", "go", (None,))),
                       Procedure("late", (("b", "block"),), ("seq", ("run", "b"), ("call", "spin"))),
                       Procedure("soon", (("b", "block"),), ("call", "spin")))
        self.assert_same(
            [are_alike(spin, "spin", "never"), are_fully_alike(spin, "spin", "never"), fully_telling(spin, "spin", "never"),
             full_entries(spin, "late")],
            [True, False, ((), 0), {((0, 0),): (0, 0), ((0, 1),): (0, 1), ((1, 0),): (0, 1), ((1, 1),): (0, 1)}])
        self.assert_same(
            [fully_telling(spin, "late", "soon"), is_fully_telling(spin, "late", "soon", (((0, 1),), 0)),
             is_term(lasting_block(3, 300, 5, "spin"), ()), lasting_modes(lasting_caller_of(spin, "late", ((1, 0),), "again"))],
            [(((0, 0),), 0), False, True, (0,)])


if __name__ == "__main__":
    unittest.main()
