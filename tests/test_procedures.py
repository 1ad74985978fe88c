"""Stage 2: `Procedure`, `is_term` and their limits, [0.7] and [0.8]."""

import unittest

from blockshanded.base import procedures
from blockshanded.base.procedures import MAX_DEPTH, MAX_PARAMETERS, MAX_TERMS, Procedure, is_term
from blockshanded.errors import InvalidProgram
from tests.samples import AGAIN, DEEP, FLIP, FLIPS, LOCKED, TWICE, PromiseTest, anything, integers, no_names

GO = ("do", "go", (0,))
DONE = ("seq",)
BLOCK = (("b", "block"),)
BOTH = (("b", "block"), ("w", "wrap"))
MANY = (("w", "wrap"), ("b", "block"), ("c", "block"))


def wrapped(wrap):
    """A term with this wrap in it."""
    return ("wrap", wrap, DONE)


def layers(around, inmost, deep):
    """The terms or wraps that have `inmost` in them, with a depth of so much more."""
    for _ in range(deep):
        inmost = around(inmost)
    return inmost


AROUND_TERMS = {
    "seq": lambda term: ("seq", term),
    "seq behind": lambda term: ("seq", GO, term, GO),
    "or": lambda term: ("or", term),
    "or behind": lambda term: ("or", GO, GO, term),
    "call": lambda term: ("call", "p", term),
    "call behind": lambda term: ("call", "p", ("own", "w"), term),
    "wrap": lambda term: ("wrap", ("own", "w"), term),
    "with": lambda term: ("wrap", ("with", "p"), term),
}


class TermTest(PromiseTest):
    def check(self, value, parameters, wanted):
        """The value is a body just if it is wanted, and a procedure is made of it just then."""
        with self.subTest(value=value, parameters=parameters):
            self.assertIs(is_term(value, parameters), wanted)
            if wanted:
                self.assert_same(Procedure("p", parameters, value).body, value)
            else:
                self.assert_raises(InvalidProgram, Procedure, "p", parameters, value)


class FormsTest(TermTest):
    def test_constants(self):
        self.assert_same((MAX_PARAMETERS, MAX_DEPTH, MAX_TERMS), (3, 6, 40))

    def test_terms_of_each_form(self):
        for term in (
                GO, DONE, ("seq", GO), ("seq", GO, DONE, GO), ("or", GO), ("or", GO, DONE, GO), ("or", ("or", DONE)),
                ("run", "b"), ("call", "p"), ("call", "p", GO), ("call", "p", ("own", "w")), ("call", "main"),
                ("call", "p", GO, ("own", "w"), ("with", "q"), DONE), ("call", "p", ("run", "b")),
                ("wrap", ("own", "w"), GO), ("wrap", ("with", "p"), ("run", "b")),
                ("wrap", ("with", "p", GO, ("own", "w"), ("with", "q", ("run", "b"))), ("wrap", ("own", "w"), DONE))):
            self.check(term, BOTH, True)

    def test_names_of_procedures_words_and_parameters_are_apart(self):
        parameters = (("run", "block"), ("own", "wrap"))
        term = ("seq", ("do", "run", (0,)), ("run", "run"), ("call", "run"), ("wrap", ("own", "own"), ("call", "own")))
        self.check(term, parameters, True)

    def test_terms_of_a_wrong_length(self):
        for term in (
                (), ("do",), ("do", "go"), ("do", "go", (0,), (0,)), ("do", (0,)), ("do", (0,), "go"), ("or",),
                ("run",), ("run", "b", "b"), ("run", "b", DONE), ("call",), ("call", GO), ("call", "p", ()), ("wrap",),
                ("wrap", GO), ("wrap", ("own", "w")), ("wrap", ("own", "w"), GO, GO), ("wrap", ("own", "w"), ()),
                ("wrap", (), GO), wrapped(("own",)), wrapped(("own", "w", "w")), wrapped(("own", "w", DONE)),
                wrapped(("with",)), wrapped(("with", DONE)), wrapped(("with", "p", ()))):
            self.check(term, BOTH, False)

    def test_terms_with_unknown_first_words(self):
        for tag in no_names() + ["a", "sequence", "blocks", "block", "doo"]:
            self.check((tag,), BOTH, False)
            self.check((tag, "b"), BOTH, False)
            self.check((tag, GO), BOTH, False)
            self.check((tag, "go", (0,)), BOTH, False)

    def test_terms_and_wraps_are_not_exchanged(self):
        for wrap in (("own", "w"), ("with", "p"), ("with", "p", GO)):
            self.check(wrap, BOTH, False)
            self.check(("seq", wrap), BOTH, False)
            self.check(("seq", GO, wrap), BOTH, False)
            self.check(("or", wrap), BOTH, False)
            self.check(("or", GO, wrap), BOTH, False)
            self.check(("wrap", wrap, wrap), BOTH, False)
            self.check(("wrap", wrap, GO), BOTH, True)
        for term in (GO, DONE, ("or", GO), ("run", "b"), ("call", "p"), wrapped(("own", "w"))):
            self.check(("wrap", term, GO), BOTH, False)
            self.check(("wrap", term, ("own", "w")), BOTH, False)

    def test_any_value_in_each_place(self):
        for value in anything():
            for term in (
                    value, ("seq", value), ("seq", GO, value), ("or", value), ("or", GO, value), ("call", "p", value),
                    ("call", "p", GO, value), ("wrap", value, GO), ("wrap", ("own", "w"), value),
                    wrapped(("with", "p", value)), wrapped(("with", "p", GO, value))):
                self.check(term, BOTH, False)
            self.check(("do", "go", value), BOTH, value in ((0,), (None,)))

    def test_lists_are_no_terms(self):
        for term in (
                ["seq"], ["do", "go", (0,)], ("do", "go", [0]), ("seq", ["seq"]), ("or", [GO]), ("call", "p", ["seq"]),
                ("call", "p", ["own", "w"]), ("wrap", ["own", "w"], GO), ("wrap", ("own", "w"), ["seq"]),
                wrapped(("with", "p", ["seq"])), ("seq", [GO, GO])):
            self.check(term, BOTH, False)

    def test_is_term_takes_every_value(self):
        for value in anything():
            for parameters in ((), BLOCK, BOTH, MANY):
                self.assertIs(is_term(value, parameters), False)


class DeedsTest(TermTest):
    def test_tables_of_one_to_three_entries(self):
        entries = (None, 0, 1, 2)
        for first in entries:
            self.check(("do", "go", (first,)), (), True)
            for second in entries:
                self.check(("do", "go", (first, second)), (), True)
                for third in entries:
                    self.check(("do", "go", (first, second, third)), (), True)

    def test_tables_of_no_entry_and_of_four(self):
        self.check(("do", "go", ()), (), False)
        self.check(("do", "go", (0, 1, 2, None)), (), False)
        self.check(("do", "go", (0,) * 40), (), False)

    def test_wrong_entries(self):
        wrong = [value for value in integers() if value not in (0, 1, 2)]
        wrong += [True, False, "", "-", "0", "go", (), (0,), [], [0], {}, FLIP, TWICE, FLIPS]
        for entry in wrong:
            for table in ((entry,), (entry, 0), (0, entry), (None, entry, 1), (0, 1, entry), (entry, entry, entry)):
                self.check(("do", "go", table), (), False)
                self.check(("seq", GO, ("do", "go", table)), (), False)

    def test_tables_of_different_lengths_in_one_body(self):
        self.check(("seq", ("do", "go", (0,)), ("do", "go", (1, None)), ("do", "go", (2, 2, 2))), (), True)

    def test_words(self):
        for many in range(1, 9):
            self.check(("do", "abcdefgh"[:many], (0,)), (), True)
        for value in no_names():
            self.check(("do", value, (0,)), (), False)
            self.check(("or", GO, ("do", value, (0,))), (), False)

    def test_names_of_procedures(self):
        for many in range(1, 9):
            self.check(("call", "abcdefgh"[:many]), (), True)
            self.check(wrapped(("with", "abcdefgh"[:many])), (), True)
        for value in no_names():
            self.check(("call", value), (), False)
            self.check(("call", value, GO), (), False)
            self.check(wrapped(("with", value)), (), False)
            self.check(wrapped(("with", value, GO)), (), False)


class ParametersTest(TermTest):
    def test_run_is_about_a_block(self):
        self.check(("run", "b"), BLOCK, True)
        self.check(("run", "b"), MANY, True)
        self.check(("run", "c"), MANY, True)
        for term, parameters in (
                (("run", "b"), ()), (("run", "c"), BLOCK), (("run", "w"), MANY), (("run", "w"), BOTH),
                (("run", "block"), BLOCK), (("run", "b"), (("b", "wrap"),))):
            self.check(term, parameters, False)
            self.check(("seq", GO, term), parameters, False)
            self.check(("call", "p", term), parameters, False)
            self.check(wrapped(("with", "p", term)), parameters, False)

    def test_own_is_about_a_wrap(self):
        self.check(wrapped(("own", "w")), BOTH, True)
        self.check(wrapped(("own", "w")), MANY, True)
        for wrap, parameters in (
                (("own", "w"), ()), (("own", "w"), BLOCK), (("own", "b"), BOTH), (("own", "c"), MANY),
                (("own", "wrap"), BOTH), (("own", "w"), (("w", "block"),))):
            self.check(wrapped(wrap), parameters, False)
            self.check(("call", "p", wrap), parameters, False)
            self.check(("call", "p", GO, wrap), parameters, False)
            self.check(wrapped(("with", "p", wrap)), parameters, False)

    def test_any_value_as_the_name_of_a_parameter(self):
        for value in anything():
            self.check(("run", value), BOTH, False)
            self.check(wrapped(("own", value)), BOTH, False)

    def test_none_to_three_parameters(self):
        pairs = (("b", "block"), ("w", "wrap"), ("c", "block"), ("v", "wrap"))
        for many in range(4):
            self.check(DONE, pairs[:many], True)
        self.check(DONE, (("x", "wrap"), ("y", "wrap"), ("z", "wrap")), True)
        self.check(DONE, (("block", "block"), ("wrap", "wrap"), ("abcdefgh", "block")), True)

    def check_no_parameters(self, parameters):
        """These are no parameters, whatever the other arguments are."""
        with self.subTest(parameters=parameters):
            for body in (DONE, GO, ("run", "b"), None, ("or",), [0], TWICE):
                self.assert_raises(InvalidProgram, is_term, body, parameters)
                self.assert_raises(InvalidProgram, Procedure, "p", parameters, body)
                self.assert_raises(InvalidProgram, Procedure, 7, parameters, body)

    def test_four_parameters(self):
        self.check_no_parameters((("a", "block"), ("b", "block"), ("c", "block"), ("d", "block")))
        self.check_no_parameters((("b", "block"), ("w", "wrap"), ("c", "block"), ("v", "wrap")))

    def test_names_that_are_there_twice(self):
        self.check_no_parameters((("b", "block"), ("b", "block")))
        self.check_no_parameters((("b", "block"), ("b", "wrap")))
        self.check_no_parameters((("b", "wrap"), ("c", "block"), ("b", "wrap")))

    def test_values_that_are_no_parameters(self):
        for value in anything():
            if value != ():
                self.check_no_parameters(value)

    def test_pairs_that_are_none(self):
        for pair in (
                (), ("b",), ("b", "block", "block"), ("block", "b"), ["b", "block"], ("b", "Block"), ("b", "blocks"),
                ("b", ""), ("b", None), ("b", 0), ("b", ("block",)), ("b", ["block"]), ("b", TWICE), "bb", "bw",
                {"b": "block"}):
            self.check_no_parameters((pair,))
            self.check_no_parameters((("c", "block"), pair))
            self.check_no_parameters((pair, ("c", "block")))
        for value in no_names():
            self.check_no_parameters(((value, "block"),))
            self.check_no_parameters((("c", "block"), (value, "wrap")))
        for value in anything():
            if value not in ("block", "wrap"):
                self.check_no_parameters((("c", value),))


class DepthTest(TermTest):
    def test_six_and_seven_of_each_form(self):
        for name, around in AROUND_TERMS.items():
            for inmost in (GO, DONE, ("run", "b"), ("call", "p")):
                with self.subTest(name=name):
                    self.check(layers(around, inmost, 4), BOTH, True)
                    self.check(layers(around, inmost, 5), BOTH, True)
                    self.check(layers(around, inmost, 6), BOTH, False)
                    self.check(layers(around, inmost, 7), BOTH, False)

    def test_wraps_count_for_the_depth(self):
        for wrap in (("own", "w"), ("with", "p")):
            for outside in (lambda inner: ("seq", inner), lambda inner: ("call", "p", inner)):
                self.check(layers(outside, ("wrap", wrap, DONE), 4), BOTH, True)
                self.check(layers(outside, ("wrap", wrap, DONE), 5), BOTH, False)
                self.check(layers(outside, ("call", "p", wrap), 4), BOTH, True)
                self.check(layers(outside, ("call", "p", wrap), 5), BOTH, False)

    def test_wraps_within_wraps(self):
        for inmost in (("own", "w"), ("with", "p"), GO):
            for around in (lambda inner: ("with", "p", inner), lambda inner: ("with", "p", DONE, inner)):
                self.check(("wrap", layers(around, inmost, 4), DONE), BOTH, True)
                self.check(("wrap", layers(around, inmost, 5), DONE), BOTH, False)
                self.check(("call", "p", layers(around, inmost, 4)), BOTH, True)
                self.check(("call", "p", layers(around, inmost, 5)), BOTH, False)

    def test_the_deepest_part_counts(self):
        six = layers(AROUND_TERMS["seq"], GO, 5)
        five = layers(AROUND_TERMS["seq"], GO, 4)
        self.check(("seq", GO, five, DONE), (), True)
        self.check(("seq", GO, six, DONE), (), False)
        self.check(("wrap", ("with", "p", five), five), (), False)
        self.check(("wrap", ("with", "p", DONE), five), (), True)
        self.check(("wrap", ("with", "p"), six), (), False)

    def test_mixed_layers(self):
        term = ("seq", ("or", ("call", "p", ("wrap", ("with", "p", ("run", "b")), DONE))))
        self.check(term, BLOCK, True)
        self.check(("or", term), BLOCK, False)

    def test_very_deep_terms(self):
        self.check(layers(AROUND_TERMS["seq"], GO, 11), (), False)
        self.check(layers(AROUND_TERMS["or"], ("or",), 11), (), False)


class CountTest(TermTest):
    def check_count(self, term, many):
        """The term consists of so many terms and wraps."""
        self.check(term, BOTH, many <= 40)
        if many <= 40:
            self.assert_same(len(Procedure("p", BOTH, term)), many)

    def test_forty_and_forty_one_side_by_side(self):
        for part in (GO, DONE, ("run", "b"), ("call", "p")):
            for tag in ("seq", "or"):
                for many in (1, 2, 38, 39, 40, 41, 80):
                    self.check_count((tag,) + (part,) * many, many + 1)

    def test_arguments_count(self):
        for part in (GO, DONE, ("run", "b"), ("own", "w"), ("with", "p")):
            for many in (0, 1, 2, 3, 38, 39, 40):
                self.check_count(("call", "p") + (part,) * many, many + 1)
                self.check_count(("wrap", ("with", "p") + (part,) * many, DONE), many + 3)

    def test_wraps_count(self):
        for wrap in (("own", "w"), ("with", "p")):
            for many in (12, 13, 14):
                self.check_count(("seq",) + (wrapped(wrap),) * many, 3 * many + 1)
            self.check_count(("seq",) + (wrapped(wrap),) * 12 + (DONE,) * 3, 40)
            self.check_count(("seq",) + (wrapped(wrap),) * 12 + (DONE,) * 4, 41)
            self.check_count(("seq", DONE) + (wrapped(wrap),) * 13, 41)

    def test_parts_of_parts_count(self):
        self.check_count(("seq",) + (("or",) + (GO,) * 12,) * 3, 40)
        self.check_count(("seq", GO) + (("or",) + (GO,) * 12,) * 3, 41)
        self.check_count(("call", "p", ("seq",) + (GO,) * 18, ("with", "q") + (GO,) * 19), 40)
        self.check_count(("call", "p", ("seq",) + (GO,) * 19, ("with", "q") + (GO,) * 19), 41)

    def test_depth_six_and_forty_at_once(self):
        term = layers(AROUND_TERMS["seq"], ("seq",) + (GO,) * 35, 4)
        self.check_count(term, 40)
        self.check(layers(AROUND_TERMS["seq"], ("seq",) + (GO,) * 36, 4), (), False)
        self.check(layers(AROUND_TERMS["seq"], ("seq",) + (GO,) * 34, 5), (), False)

    def test_words_and_tables_do_not_count(self):
        self.check_count(("seq",) + (("do", "go", (0, 1, 2)),) * 39, 40)
        self.check_count(("seq",) + (("do", "go", (None, None, None)),) * 40, 41)

    def test_terms_that_are_far_too_many(self):
        term = DONE
        for _ in range(5):
            term = ("seq",) + (term,) * 4
        self.check(term, (), False)

    def test_small_terms(self):
        for term, many in (
                (GO, 1), (DONE, 1), (("or", GO), 2), (("run", "b"), 1), (("call", "p"), 1),
                (("call", "p", ("own", "w")), 2), (wrapped(("own", "w")), 3),
                (wrapped(("with", "p", GO, ("with", "q", GO))), 6), (("seq", ("seq",), ("or", ("seq", GO))), 5)):
            self.check_count(term, many)


class ProcedureTest(PromiseTest):
    def test_properties(self):
        procedure = Procedure("abcdefgh", MANY, ("seq", ("run", "c"), wrapped(("own", "w"))))
        self.assert_same(procedure.named, "abcdefgh")
        self.assert_same(procedure.parameters, MANY)
        self.assert_same(procedure.body, ("seq", ("run", "c"), wrapped(("own", "w"))))
        self.assert_same(procedure.kinds, ("wrap", "block", "block"))
        self.assert_same(procedure.words, ())
        self.assert_same(procedure.uses, ())
        self.assert_same(len(procedure), 5)

    def test_kinds_in_the_order_of_the_parameters(self):
        for parameters, kinds in (
                ((), ()), (BLOCK, ("block",)), (BOTH, ("block", "wrap")), (BOTH[::-1], ("wrap", "block")),
                ((("z", "block"), ("a", "wrap"), ("m", "block")), ("block", "wrap", "block"))):
            self.assert_same(Procedure("p", parameters, DONE).kinds, kinds)

    def test_words_of_deeds_everywhere(self):
        deeds = [("do", word, (0,)) for word in ("z", "m", "a", "m", "go", "b", "z", "ab")]
        body = ("seq", deeds[0], ("or", deeds[1], ("seq", deeds[2])),
                ("call", "call", deeds[3], ("with", "x", deeds[4])),
                ("wrap", ("with", "with", deeds[5]), ("wrap", ("own", "w"), deeds[6])), deeds[7])
        self.assert_same(Procedure("p", BOTH, body).words, ("a", "ab", "b", "go", "m", "z"))

    def test_uses_everywhere(self):
        body = ("seq", ("call", "z"), ("or", ("call", "m", ("call", "b")), ("seq", ("call", "a", ("with", "n")))),
                ("wrap", ("with", "y", ("call", "k"), ("with", "c")), ("call", "d")), ("call", "z"), ("do", "go", (0,)),
                ("wrap", ("own", "w"), ("call", "p")), ("run", "b"))
        self.assert_same(Procedure("p", BOTH, body).uses, ("a", "b", "c", "d", "k", "m", "n", "p", "y", "z"))

    def test_uses_are_neither_words_nor_parameters(self):
        procedure = Procedure("p", BOTH, ("seq", GO, ("run", "b"), wrapped(("own", "w"))))
        self.assert_same(procedure.uses, ())
        self.assert_same(Procedure("p", (), ("call", "p", wrapped(("with", "q")))).words, ())

    def test_names(self):
        for many in range(1, 9):
            self.assert_same(Procedure("abcdefgh"[:many], (), DONE).named, "abcdefgh"[:many])

    def test_wrong_names(self):
        for value in no_names():
            with self.subTest(value=value):
                self.assert_raises(InvalidProgram, Procedure, value, (), DONE)
                self.assert_raises(InvalidProgram, Procedure, value, BLOCK, ("run", "b"))

    def test_several_wrong_arguments(self):
        wrong = [7, True, None, "no name", [], ["p"], {}, {"p": 1}, TWICE, FLIPS]
        for name in wrong:
            for other in wrong:
                self.assert_raises(InvalidProgram, Procedure, name, other, DONE)
                self.assert_raises(InvalidProgram, Procedure, name, (), other)
                self.assert_raises(InvalidProgram, Procedure, "p", other, name)
                self.assert_raises(InvalidProgram, Procedure, name, other, other)

    def test_texts(self):
        self.assert_same(str(TWICE), "procedure twice, 1 parameters, 3 terms")
        self.assert_same(str(Procedure("p", (), DONE)), "procedure p, 0 parameters, 1 terms")
        self.assert_same(str(AGAIN), "procedure again, 2 parameters, 5 terms")
        self.assert_same(str(Procedure("main", MANY, ("seq",) + (GO,) * 39)), "procedure main, 3 parameters, 40 terms")

    def test_equality(self):
        body = ("seq", ("run", "b"), ("run", "b"))
        self.assert_equal_things(TWICE, Procedure("twice", (("b", "block"),), body))
        self.assert_equal_things(Procedure("p", (), DONE), Procedure("p", (), DONE))
        self.assert_equals_no_other(TWICE, [
            Procedure("once", BLOCK, body), Procedure("twice", BLOCK, ("seq", ("run", "b"))),
            Procedure("twice", BLOCK + (("c", "block"),), body), Procedure("twice", BOTH, body),
            Procedure("twice", BLOCK, ("or", ("run", "b"), ("run", "b"))), LOCKED, FLIPS])
        self.assert_equals_no_other(Procedure("p", BLOCK, DONE), [
            Procedure("p", (), DONE), Procedure("p", (("b", "wrap"),), DONE), Procedure("p", (("c", "block"),), DONE)])
        self.assert_equals_no_other(Procedure("p", (), ("do", "go", (0,))), [
            Procedure("p", (), ("do", "go", (1,))), Procedure("p", (), ("do", "go", (None,))),
            Procedure("p", (), ("do", "do", (0,))), Procedure("p", (), ("do", "go", (0, 0)))])

    def test_equality_takes_every_value(self):
        self.assert_equals_no_other(DEEP, anything())
        self.assert_equals_no_other(DEEP, [DEEP.named, DEEP.body, DEEP.parameters, (DEEP,), str(DEEP)])

    def test_equality_in_containers(self):
        same = Procedure("twice", BLOCK, TWICE.body)
        self.assertIn(same, (AGAIN, TWICE))
        self.assertNotIn(same, (AGAIN, DEEP, "twice", None))

    def test_no_iteration(self):
        self.assert_not_iterable(TWICE)
        self.assert_not_iterable(Procedure("p", (), DONE))

    def test_equal_calls_have_equal_results(self):
        for procedure in (TWICE, AGAIN, DEEP, LOCKED):
            other = Procedure(procedure.named, procedure.parameters, procedure.body)
            self.assert_same(procedure, other)
            self.assert_same(procedure, procedure)

    def test_where_all_is_defined(self):
        self.assertEqual(Procedure.__module__, "blockshanded.base.procedures")
        self.assertEqual(procedures.is_term.__module__, "blockshanded.base.procedures")
        for method in ("__len__", "__eq__", "__str__"):
            self.assertIn(method, vars(Procedure))

    def test_example(self):
        self.assert_same(
            [TWICE.kinds, len(AGAIN), DEEP.uses, LOCKED.words, str(TWICE), is_term(("run", "x"), (("x", "wrap"),)),
             is_term(("or",), ())],
            [("block",), 5, ("again", "deep"), ("lock", "unlock"), "procedure twice, 1 parameters, 3 terms", False,
             False])


if __name__ == "__main__":
    unittest.main()
