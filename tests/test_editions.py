"""Stage 14: `without_term`, `exchanged`, `ends_lost` and `needless_terms`, [14.1] and [0.18]."""

import random
import time
import unittest

from blockshanded.ask.ends import ends
from blockshanded.ask.words import words_done
from blockshanded.base.procedures import Procedure
from blockshanded.base.programs import Program
from blockshanded.errors import InvalidNumber, InvalidOperation, InvalidProgram, TooMany, UnknownName
from blockshanded.mean.books import book_of
from blockshanded.same import editions
from blockshanded.same.editions import ends_lost, exchanged, needless_terms, without_term
from blockshanded.same.tables import are_alike
from blockshanded.text.texts import read_program, write_program
from tests.crowds import crowd, flood, lesser_crowd
from tests.long_runs import DONE, main
from tests.random_programs import random_program
from tests.samples import FLIP, FLIPS, LOCKED, LOCKS, LOOP, TWICE, GREATEST, PromiseTest, anything, no_names
from tests.test_callers import BOTH, ONCE

BLOCK = (("b", "block"),)
MAIN = ("main", ())
A, B, C, D = [("do", word, (0, 1)) for word in "abcd"]


def text_of(body):
    """The text of a body."""
    return write_program(main(body, TWICE, LOCKED)).split("\n")[1][len("proc main : "):]


def pieces(text):
    """The text in brackets that begins at each "(or" of a text, in order, each with its place."""
    found = []
    for place in range(len(text)):
        if text.startswith("(or ", place):
            depth = 0
            for end in range(place, len(text)):
                depth += (text[end] == "(") - (text[end] == ")")
                if depth == 0:
                    found.append((place, text[place:end + 1]))
                    break
    return found


def terms_in(text):
    """The texts of the terms in the text of an "or"."""
    found, depth, begin = [], 0, 0
    for place, sign in enumerate(text):
        depth += (sign == "(") - (sign == ")")
        if sign == "(" and depth == 2:
            begin = place
        if sign == ")" and depth == 1:
            found.append(text[begin:place + 1])
    return found


def without_by_text(program, name, number, index):
    """The program without a term, made by its text alone."""
    lines = write_program(program).split("\n")
    at = [line.startswith(f"proc {name} ") for line in lines].index(True)
    place, text = pieces(lines[at])[number]
    left = terms_in(text)
    del left[index]
    lines[at] = lines[at][:place] + "(or " + " ".join(left) + ")" + lines[at][place + len(text):]
    return read_program("\n".join(lines))


class WithoutTest(PromiseTest):
    def test_small_bodies(self):
        program = main(("or", A, ("seq", B, ("or", C, D)), ("or", ("or", A, B), C)))
        self.assert_same(without_term(program, "main", 0, 0)["main"].body, ("or", ("seq", B, ("or", C, D)), ("or", ("or", A, B), C)))
        self.assert_same(without_term(program, "main", 0, 1)["main"].body, ("or", A, ("or", ("or", A, B), C)))
        self.assert_same(without_term(program, "main", 1, 0)["main"].body, ("or", A, ("seq", B, ("or", D)), ("or", ("or", A, B), C)))
        self.assert_same(without_term(program, "main", 2, 0)["main"].body, ("or", A, ("seq", B, ("or", C, D)), ("or", C)))
        self.assert_same(without_term(program, "main", 2, 1)["main"].body, ("or", A, ("seq", B, ("or", C, D)), ("or", ("or", A, B))))
        self.assert_same(without_term(program, "main", 3, 1)["main"].body, ("or", A, ("seq", B, ("or", C, D)), ("or", ("or", A), C)))

    def test_in_arguments_and_wraps(self):
        pair = Procedure("pair", (("x", "block"), ("y", "block")), ("or", ("run", "x"), ("run", "y")))
        body = ("seq", ("wrap", ("with", "pair", ("or", A, B)), ("or", C, ("call", "pair", ("or", D), ("or", B, C)))), ("or", D, D))
        program = main(body, pair)
        self.assert_same(without_term(program, "main", 0, 1)["main"].body[1][1], ("with", "pair", ("or", A)))
        self.assert_same(without_term(program, "main", 1, 1)["main"].body[1][2], ("or", C))
        self.assert_raises(InvalidOperation, without_term, program, "main", 2, 0)
        self.assert_same(without_term(program, "main", 3, 0)["main"].body[1][2][2], ("call", "pair", ("or", D), ("or", C)))
        self.assert_same(without_term(program, "main", 4, 1)["main"].body[2], ("or", D))
        self.assert_raises(InvalidNumber, without_term, program, "main", 5, 0, value=5)
        self.assert_same(without_term(program, "pair", 0, 0)["pair"], Procedure("pair", pair.parameters, ("or", ("run", "y"))))
        self.assert_same(without_term(program, "pair", 0, 0)["main"], program["main"])

    def test_by_their_texts(self):
        many = 0
        for seed in range(150):
            program = random_program(seed)
            for procedure in program.procedures:
                line = write_program(program).split("\n")[1 + program.procedures.index(procedure)]
                found = pieces(line)
                for number, (_, text) in enumerate(found):
                    options = terms_in(text)
                    for index in range(len(options)):
                        if len(options) == 1:
                            self.assert_raises(InvalidOperation, without_term, program, procedure.named, number, index)
                        else:
                            many += 1
                            self.assert_same(without_term(program, procedure.named, number, index),
                                             without_by_text(program, procedure.named, number, index))
                    self.assert_raises(InvalidNumber, without_term, program, procedure.named, number, len(options), value=len(options))
                self.assert_raises(InvalidNumber, without_term, program, procedure.named, len(found), 0, value=len(found))
        self.assertGreater(many, 400)

    def test_no_end_and_no_deed_comes(self):
        for seed in range(60):
            program = random_program(seed)
            for procedure in program.procedures:
                line = write_program(program).split("\n")[1 + program.procedures.index(procedure)]
                for number, (_, text) in enumerate(pieces(line)):
                    if len(terms_in(text)) > 1:
                        other = without_term(program, procedure.named, number, seed % 2)
                        try:
                            for start in range(program.modes):
                                self.assertLessEqual(set(ends(other, start)), set(ends(program, start)))
                                self.assertLessEqual(set(words_done(other, start)), set(words_done(program, start)))
                            self.assert_same(ends_lost(other, program), ())
                        except TooMany as error:
                            self.assertEqual(error.limit, 800)

    def test_errors(self):
        for value in anything():
            if value not in (FLIPS, LOCKS):
                self.assert_raises(InvalidProgram, without_term, value, 5, None, None)
        for name in no_names() + ["nowhere"]:
            self.assert_raises(UnknownName, without_term, LOCKS, name, None, None, name=name)
        for value in anything():
            if value != 0 or isinstance(value, bool):
                self.assert_raises(InvalidNumber, without_term, LOCKS, "deep", value, None, value=value)
                self.assert_raises(InvalidNumber, without_term, LOCKS, "main", value, None, value=value)
                self.assert_raises(InvalidNumber, without_term, LOCKS, "deep", value, 0, value=value)
            if value not in (0, 1) or isinstance(value, bool):
                self.assert_raises(InvalidNumber, without_term, LOCKS, "deep", 0, value, value=value)
        single = main(("or", A))
        for value in anything():
            if value != 0 or isinstance(value, bool):
                self.assert_raises(InvalidNumber, without_term, single, "main", 0, value, value=value)
        self.assert_raises(InvalidOperation, without_term, single, "main", 0, 0)
        self.assert_raises(InvalidNumber, without_term, LOCKS, "main", 0, 0, value=0)
        self.assert_raises(InvalidNumber, without_term, LOCKS, "deep", GREATEST, 5, value=GREATEST)


class ExchangedTest(PromiseTest):
    def test_calls_and_wraps(self):
        left = Procedure("left", BLOCK, ("seq", ("run", "b"), ("call", "left", ("wrap", ("with", "left"), ("run", "b")))))
        right = Procedure("right", BLOCK, ("call", "left", ("call", "right", ("run", "b"))))
        use = Procedure("use", (("w", "wrap"), ("b", "block")), ("wrap", ("own", "w"), ("run", "b")))
        body = ("or", ("call", "use", ("with", "left"), ("call", "left", ("call", "right", A))), ("wrap", ("with", "use", ("with", "left")), A))
        program = main(body, left, right, use)
        wanted = main(eval(repr(body).replace("left", "right")), Procedure("left", BLOCK, eval(repr(left.body).replace("left", "right"))),
                      Procedure("right", BLOCK, eval(repr(right.body).replace("left", "right"))), use)
        self.assert_same(exchanged(program, "left", "right"), wanted)
        self.assertNotIn("left", [name for own in wanted.procedures for name in own.uses])

    def test_a_procedure_with_itself(self):
        for program in (FLIPS, LOCKS, LOOP, BOTH):
            for name in program.names:
                self.assert_same(exchanged(program, name, name), program)

    def test_words_and_parameters_with_the_same_name(self):
        program = main(("seq", ("do", "one", (0, 1)), ("call", "one", A)), Procedure("one", (("one", "block"),), ("run", "one")),
                       Procedure("two", (("one", "block"),), ("seq", ("do", "one", (0, 0)), ("run", "one"))))
        other = exchanged(program, "one", "two")
        self.assert_same(other["main"].body, ("seq", ("do", "one", (0, 1)), ("call", "two", A)))
        self.assert_same((other["one"], other["two"]), (program["one"], program["two"]))

    def test_main(self):
        program = main(("or", DONE, ("call", "other")), Procedure("other", (), ("call", "main")))
        self.assert_same(exchanged(program, "main", "other")["other"].body, ("call", "other"))
        self.assert_same(exchanged(program, "other", "main")["main"].body, ("or", DONE, ("call", "main")))

    def test_no_end_comes_by_what_is_alike(self):
        many = 0
        again = Procedure("again", BLOCK, ("or", ("run", "b"), ("seq", ("call", "again", ("run", "b")), FLIP, FLIP)))
        for body in (("call", "once", FLIP), ("call", "twice", ("call", "once", ("or", FLIP, DONE)))):
            program = main(body, ONCE, TWICE, again)
            self.assertIs(are_alike(program, "once", "again"), True)
            for one, other in (("once", "again"), ("again", "once")):
                self.assert_same(ends_lost(exchanged(program, one, other), program), ())
                many += len(ends_lost(program, exchanged(program, one, other)))
        # [0.19]: if all calls of "again" become calls of "once", also its own, nothing is lost here; see below.
        self.assertEqual(many, 0)

    def test_ends_can_be_lost_by_what_is_alike(self):
        # [0.19]: "slow" calls "fast", and is alike; but if all calls of "fast" become calls of "slow", it never ends.
        slow = Procedure("slow", BLOCK, ("call", "fast", ("run", "b")))
        fast = Procedure("fast", BLOCK, ("run", "b"))
        program = main(("call", "fast", FLIP), slow, fast)
        self.assertIs(are_alike(program, "slow", "fast"), True)
        self.assert_same(ends_lost(program, exchanged(program, "fast", "slow")), ((0, 1), (1, 0)))
        self.assert_same(ends_lost(program, exchanged(program, "slow", "fast")), ())

    def test_errors(self):
        for value in anything():
            if value not in (FLIPS, LOCKS):
                self.assert_raises(InvalidProgram, exchanged, value, 5, 5)
        for name in no_names() + ["nowhere"]:
            self.assert_raises(UnknownName, exchanged, LOCKS, name, 7, name=name)
            self.assert_raises(UnknownName, exchanged, LOCKS, "deep", name, name=name)
        for one, other in (("main", "locked"), ("locked", "main"), ("again", "deep"), ("deep", "locked"), ("locked", "again")):
            self.assert_raises(InvalidOperation, exchanged, LOCKS, one, other)
        mixed = main(DONE, Procedure("p", (("x", "block"), ("y", "wrap")), DONE), Procedure("q", (("x", "wrap"), ("y", "block")), DONE))
        self.assert_raises(InvalidOperation, exchanged, mixed, "p", "q")


class EndsLostTest(PromiseTest):
    def test_small_programs(self):
        other = main(DONE)
        self.assert_same(ends_lost(FLIPS, other), ((0, 1), (1, 0)))
        self.assert_same(ends_lost(other, FLIPS), ())
        self.assert_same(ends_lost(LOCKS, other), ())
        self.assert_same(ends_lost(other, LOCKS), ((1, 1),))
        self.assert_same(ends_lost(FLIPS, FLIPS), ())
        self.assert_same(ends_lost(LOOP, Program(1, Procedure("main", (), DONE))), ())
        self.assert_same(ends_lost(Program(1, Procedure("main", (), DONE)), LOOP), ((0, 0),))

    def test_all_relations(self):
        maker = random.Random(1)
        for modes in (2, 3):
            for _ in range(60):
                both = [[("do", "go", tuple(maker.choice((None,) + tuple(range(modes))) for _ in range(modes)))
                         for _ in range(2)] for _ in range(2)]
                one, other = [main(("or",) + tuple(deeds), modes=modes) for deeds in both]
                pairs = [{(m, deed[2][m]) for deed in deeds for m in range(modes) if deed[2][m] is not None} for deeds in both]
                self.assert_same(ends_lost(one, other), tuple(sorted(pairs[0] - pairs[1])))

    def test_errors(self):
        for value in anything():
            if value not in (FLIPS, LOCKS):
                self.assert_raises(InvalidProgram, ends_lost, value, 5)
                self.assert_raises(InvalidProgram, ends_lost, FLIPS, value)
        for other in (LOOP, main(DONE, modes=3)):
            self.assert_raises(InvalidOperation, ends_lost, FLIPS, other)
            self.assert_raises(InvalidOperation, ends_lost, other, FLIPS)
            self.assert_raises(InvalidOperation, ends_lost, crowd(9, 9), other)

    def test_too_many(self):
        for one, other in ((crowd(9, 9), FLIPS), (FLIPS, crowd(9, 9)), (flood(DONE, DONE, DONE), crowd(9, 9))):
            self.assert_raises(TooMany, ends_lost, one, other, limit=800)
        self.assert_same(ends_lost(crowd(4, 8), crowd(4, 8)), ())


class NeedlessTest(PromiseTest):
    def test_by_the_words_of_the_document(self):
        many = 0
        for seed in range(60):
            program = random_program(seed)
            wanted = []
            try:
                for procedure in sorted(program.procedures, key=lambda own: own.named):
                    line = write_program(program).split("\n")[1 + program.procedures.index(procedure)]
                    for number, (_, text) in enumerate(pieces(line)):
                        options = terms_in(text)
                        for index in range(len(options)):
                            if len(options) > 1 and ends_lost(program, without_term(program, procedure.named, number, index)) == ():
                                wanted.append((procedure.named, number, index))
            except TooMany:
                self.assert_raises(TooMany, needless_terms, program, limit=800)
                continue
            many += len(wanted)
            self.assert_same(needless_terms(program), tuple(wanted))
        self.assertGreater(many, 80)

    def test_small_programs(self):
        self.assert_same(needless_terms(main(("or", DONE, DONE, FLIP))), (("main", 0, 0), ("main", 0, 1)))
        self.assert_same(needless_terms(main(("or", DONE))), ())
        self.assert_same(needless_terms(LOOP), ())
        program = main(("or", A, ("or", B)), Procedure("a", (), ("or", FLIP, FLIP)))
        self.assert_same(needless_terms(program), (("a", 0, 0), ("a", 0, 1), ("main", 0, 0), ("main", 0, 1)))

    def test_ends_of_each_alone(self):
        # Each of two can be left out, but not both.
        program = main(("or", DONE, ("seq", DONE)))
        self.assert_same(needless_terms(program), (("main", 0, 0), ("main", 0, 1)))
        self.assert_same(needless_terms(without_term(program, "main", 0, 0)), ())

    def test_errors(self):
        for value in anything():
            if value not in (FLIPS, LOCKS):
                self.assert_raises(InvalidProgram, needless_terms, value)
        self.assert_raises(TooMany, needless_terms, crowd(9, 9), limit=800)

    def test_too_many_in_an_edition_alone(self):
        # By "late" main has all pairs. With fewer, what it hands leads to 584 contexts, and 290 more are there anyhow.
        lesser = lesser_crowd(6, 1)
        others = [("seq", ("do", "never", (None, None)), ("call", "branch", ("do", "go", table))) for table in ((1, 0), (None, 0))]
        program = lesser.with_procedure(Procedure("main", (), ("or", lesser["main"].body) + tuple(others)))
        self.assertEqual(len(book_of(program)), 439)
        self.assert_raises(TooMany, book_of, without_term(program, "late", 0, 0), limit=800)
        self.assert_raises(TooMany, ends_lost, program, without_term(program, "late", 0, 0), limit=800)
        self.assert_raises(TooMany, needless_terms, program, limit=800)

    def test_no_calls_no_error(self):
        # Where nothing can be left out, no relation is asked for.
        single = flood(DONE, DONE, DONE)
        self.assertEqual([part for line in write_program(single).split("\n") for part in pieces(line)], [])
        self.assert_same(needless_terms(single), ())

    def test_it_is_quick(self):
        deeds = [("do", "a", tuple(e if m == mode else None for m in range(3))) for mode in range(3) for e in range(3)]
        body = ("or", ("run", "b")) + tuple(("call", "p", ("or", ("run", "b"), deed)) for deed in deeds)
        program = main(("call", "p", ("or", DONE, deeds[1])), Procedure("p", BLOCK, body), modes=3)
        begin = time.perf_counter()
        found = needless_terms(program)
        self.assertLess(time.perf_counter() - begin, 5)
        self.assertGreater(len(found), 5)

    def test_where_all_is_defined(self):
        for name in ("without_term", "exchanged", "ends_lost", "needless_terms"):
            self.assertEqual(getattr(editions, name).__module__, "blockshanded.same.editions")


class ExampleTest(PromiseTest):
    def test_examples(self):
        self.assert_same(
            [needless_terms(LOCKS), needless_terms(FLIPS), ends_lost(FLIPS, without_term(FLIPS, "main", 0, 0)),
             without_term(FLIPS, "main", 0, 1)["main"].body],
            [(("deep", 0, 1),), (), ((0, 1), (1, 0)), ("call", "twice", ("or", ("do", "flip", (1, 0))))])
        self.assert_same(
            [exchanged(BOTH, "twice", "once")["main"].uses, ends_lost(BOTH, exchanged(BOTH, "twice", "once"))],
            [("once",), ()])


if __name__ == "__main__":
    unittest.main()
