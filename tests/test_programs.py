"""Stage 3: `Program` and `Program.of`."""

import itertools
import unittest

from blockshanded.base.procedures import Procedure
from blockshanded.base.programs import MAX_PROCEDURES, Program
from blockshanded.errors import InvalidOperation, InvalidProgram, UnknownName
from tests.samples import (
    AGAIN, DEEP, FLIP, FLIPS, GREATEST, LOCKED, LOCKS, TWICE, PromiseTest, anything, no_names, picture)

DONE = ("seq",)
MAIN = Procedure("main", (), DONE)
ENTRIES = (None, 0, 1, 2)
BLOCK = (("b", "block"),)
WRAP = (("w", "wrap"),)


def main(body):
    """The main procedure with this body."""
    return Procedure("main", (), body)


def deed(*table):
    """A deed with this table."""
    return ("do", "go", table)


def empty(name, *kinds):
    """A procedure that does nothing, with parameters of these kinds."""
    return Procedure(name, tuple(zip("abc", kinds)), DONE)


def several(many):
    """So many procedures with different names, main the last one of them."""
    return tuple(empty("p" + letter) for letter in "abcdefghijk"[:many - 1]) + (MAIN,)


class ProgramTest(PromiseTest):
    def check(self, wanted, modes, *procedures):
        """These make a program just if it is wanted."""
        with self.subTest(modes=modes, procedures=procedures):
            if wanted:
                program = Program(modes, *procedures)
                self.assert_same((program.modes, program.procedures), (modes, procedures))
                self.assert_equal_things(program, Program.of(modes, procedures))
                self.assert_same(program, Program.of(modes, procedures))
            else:
                self.assert_raises(InvalidProgram, Program, modes, *procedures)
                self.assert_raises(InvalidProgram, Program.of, modes, procedures)


class ModesTest(ProgramTest):
    def test_one_to_three(self):
        for modes in (1, 2, 3):
            self.check(True, modes, MAIN)
            self.check(True, modes, main(deed(*(0,) * modes)))

    def test_other_values(self):
        for modes in anything():
            if picture(modes) not in [picture(right) for right in (1, 2, 3)]:
                self.check(False, modes, MAIN)
        for modes in (0, 4, 5, -1, GREATEST, True, False, None, "1", (1,), [1], {1: 1}):
            self.check(False, modes, MAIN)

    def test_with_wraps_as_parameters_one_or_two(self):
        for kinds in (("wrap",), ("block", "wrap"), ("wrap", "block", "block"), ("wrap", "wrap", "wrap")):
            for modes, wanted in ((1, True), (2, True), (3, False), (4, False), (0, False)):
                self.check(wanted, modes, MAIN, empty("p", *kinds))
                self.check(wanted, modes, empty("p", *kinds), empty("q"), MAIN)

    def test_wraps_that_are_no_parameters_go_with_three_modes(self):
        body = ("wrap", ("with", "p"), DONE)
        for modes in (1, 2, 3):
            self.check(True, modes, main(body), empty("p", "block"))
            self.assertIs(Program(modes, main(body), empty("p", "block")).has_wraps, False)


class DeedsTest(ProgramTest):
    def test_every_table(self):
        for many in (1, 2, 3):
            for table in itertools.product(ENTRIES, repeat=many):
                for modes in (1, 2, 3):
                    wanted = many == modes and all(entry is None or entry < modes for entry in table)
                    self.check(wanted, modes, main(deed(*table)))

    def test_tables_in_every_place(self):
        right, wrong = deed(0, None), (deed(0), deed(0, 2), deed(2, None), deed(None, None, None), deed(0, 1, 1))
        places = (
            lambda inner: ("seq", right, inner), lambda inner: ("or", right, ("seq", inner)),
            lambda inner: ("call", "p", inner, ("with", "q")), lambda inner: ("call", "p", DONE, ("with", "r", inner)),
            lambda inner: ("wrap", ("with", "q"), inner), lambda inner: ("wrap", ("with", "r", inner), DONE),
            lambda inner: ("wrap", ("with", "s", ("with", "r", inner)), DONE))
        others = (empty("p", "block", "wrap"), empty("q", "block"), empty("r", "block", "block"),
                  empty("s", "wrap", "block"))
        for place in places:
            self.check(True, 2, main(place(right)), *others)
            for other in wrong:
                self.check(False, 2, main(place(other)), *others)

    def test_tables_in_every_procedure(self):
        for many in range(8):
            procedures = list(several(8))
            procedures[many] = Procedure(procedures[many].named, (), ("seq", deed(1, 0)))
            self.check(True, 2, *procedures)
            self.check(False, 1, *procedures)
            self.check(False, 3, *procedures)


class ProceduresTest(ProgramTest):
    def test_constant(self):
        self.assert_same(MAX_PROCEDURES, 8)

    def test_one_to_eight(self):
        for many in range(1, 9):
            self.check(True, 2, *several(many))
            self.assert_same(len(Program(2, *several(many))), many)

    def test_nine(self):
        self.check(False, 2, *several(9))
        self.check(False, 2, *several(10))
        self.check(False, 2, *several(9)[::-1])

    def test_none(self):
        self.check(False, 1)
        self.check(False, 2)

    def test_main_is_there(self):
        self.check(False, 2, TWICE)
        self.check(False, 2, empty("mainx"), empty("mai"))
        self.check(True, 2, TWICE, MAIN)
        self.check(True, 2, MAIN, TWICE)

    def test_main_has_no_parameters(self):
        for kinds in (("block",), ("wrap",), ("block", "block"), ("block", "wrap", "block")):
            self.check(False, 2, empty("main", *kinds))
            self.check(False, 2, TWICE, empty("main", *kinds))

    def test_different_names(self):
        self.check(False, 2, MAIN, MAIN)
        self.check(False, 2, MAIN, main(deed(0, 0)))
        self.check(False, 2, MAIN, TWICE, TWICE)
        self.check(False, 2, MAIN, TWICE, empty("twice"))
        self.check(False, 2, empty("p"), MAIN, empty("q"), empty("p", "block"))

    def test_values_that_are_no_procedures(self):
        for value in anything():
            if value not in (TWICE, AGAIN):
                self.check(False, 2, value)
                self.check(False, 2, MAIN, value)
                self.check(False, 2, value, MAIN)
                self.check(False, 2, MAIN, TWICE, value)
        for value in ((MAIN,), [MAIN], {"main": MAIN}, ("main", (), DONE), "main", FLIPS):
            self.check(False, 2, value)

    def test_several_wrong_arguments(self):
        wrong = (0, True, None, "main", (), [], {}, LOCKS)
        for modes in wrong:
            for value in wrong:
                self.check(False, modes, value)
                self.check(False, modes, MAIN, value)
                self.check(False, modes, value, value)
                self.check(False, modes, main(("call", "nowhere")), value)


class OfTest(ProgramTest):
    def test_what_is_no_tuple(self):
        for value in anything():
            with self.subTest(value=value):
                self.assert_raises(InvalidProgram, Program.of, 2, value)
                self.assert_raises(InvalidProgram, Program.of, 7, value)
        for value in ([MAIN], {"main": MAIN}, {0: MAIN}, MAIN, FLIPS, "main", None, 1, True):
            self.assert_raises(InvalidProgram, Program.of, 2, value)

    def test_of_makes_programs(self):
        program = Program.of(2, FLIPS.procedures)
        self.assertIs(type(program), Program)
        self.assert_same(program, FLIPS)
        self.assert_equal_things(program, FLIPS)


class CallsTest(ProgramTest):
    def check_call(self, wanted, term, *others):
        """A body with this term fits to these procedures, wherever it stands."""
        helpers = others + (empty("x", "block"), empty("y", "block", "block"), empty("z", "wrap"))
        self.check(wanted, 2, main(term), *helpers)
        self.check(wanted, 2, MAIN, Procedure("late", (), term), *helpers)
        for body in (
                ("seq", DONE, term), ("or", DONE, ("or", term)), ("call", "x", term), ("wrap", ("with", "x"), term),
                ("wrap", ("with", "y", term), DONE), ("call", "z", ("with", "y", term))):
            self.check(wanted, 2, main(body), *helpers)

    def test_calls_by_kinds(self):
        arguments = {"block": DONE, "wrap": ("with", "x")}
        for kinds in every_kinds():
            for given in every_kinds() + [("block",) * 4, ("wrap",) * 4]:
                term = ("call", "p") + tuple(arguments[kind] for kind in given)
                self.check_call(given == kinds, term, empty("p", *kinds))

    def test_withs_by_kinds(self):
        arguments = {"block": ("or", DONE), "wrap": ("with", "y", DONE)}
        for kinds in every_kinds():
            for given in every_kinds():
                wrap = ("with", "p") + tuple(arguments[kind] for kind in given)
                wanted = kinds != () and kinds[-1] == "block" and given == kinds[:-1]
                self.check_call(wanted, ("wrap", wrap, DONE), empty("p", *kinds))
                self.check_call(wanted, ("call", "z", wrap), empty("p", *kinds))

    def test_own_as_an_argument(self):
        call = ("call", "p", ("own", "w"))
        for body in (call, ("wrap", ("with", "q", ("own", "w")), DONE)):
            caller = Procedure("r", WRAP, body)
            self.check(True, 2, MAIN, caller, empty("p", "wrap"), empty("q", "wrap", "block"))
            self.check(False, 2, MAIN, caller, empty("p", "block"), empty("q", "block", "block"))

    def test_every_form_of_a_block_as_an_argument(self):
        terms = (deed(0, 0), DONE, ("or", DONE), ("run", "b"), ("call", "main"), ("wrap", ("with", "p"), DONE))
        for term in terms:
            caller = Procedure("r", BLOCK, ("call", "p", term))
            self.check(True, 2, MAIN, caller, empty("p", "block"))
            self.check(False, 2, MAIN, caller, empty("p", "wrap"))

    def test_procedures_that_are_not_there(self):
        self.check_call(False, ("call", "nowhere"))
        self.check_call(False, ("call", "nowhere", DONE))
        self.check_call(False, ("wrap", ("with", "nowhere"), DONE))
        self.check_call(False, ("call", "z", ("with", "nowhere")))
        self.check_call(False, ("seq", ("call", "main"), ("call", "nowhere")))

    def test_names_of_words_and_parameters_are_no_procedures(self):
        self.check(False, 2, main(("call", "go")), empty("p"))
        self.check(False, 2, MAIN, Procedure("p", BLOCK, ("call", "b")))
        self.check(False, 2, MAIN, Procedure("p", WRAP, ("wrap", ("with", "w"), DONE)))

    def test_calls_of_main_and_of_themselves(self):
        self.check(True, 2, main(("call", "main")))
        self.check(True, 2, MAIN, Procedure("p", (), ("call", "p")))
        self.check(True, 2, main(("call", "p")), Procedure("p", (), ("seq", ("call", "main"), ("call", "p"))))
        self.check(True, 2, MAIN, Procedure("p", BLOCK, ("wrap", ("with", "p"), ("call", "p", ("run", "b")))))
        self.check(False, 2, main(("call", "main", DONE)))
        self.check(False, 2, main(("wrap", ("with", "main"), DONE)))


def every_kinds():
    """The kinds of parameters that a procedure can have."""
    return [kinds for many in range(4) for kinds in itertools.product(("block", "wrap"), repeat=many)]


class PropertiesTest(ProgramTest):
    def test_names_are_ascending_and_procedures_in_order(self):
        procedures = (empty("z"), MAIN, empty("a"), empty("mainx"), empty("ab"), empty("m"))
        for order in (procedures, procedures[::-1], procedures[2:] + procedures[:2]):
            program = Program(3, *order)
            self.assert_same(program.procedures, order)
            self.assert_same(program.names, ("a", "ab", "m", "main", "mainx", "z"))
            self.assert_same(program.modes, 3)

    def test_words_of_all_procedures(self):
        deeds = [("do", word, (0,)) for word in ("z", "m", "a", "m", "ab", "b", "z")]
        program = Program(1, Procedure("p", (), ("seq", deeds[0], deeds[1])),
                          main(("or", deeds[2], ("call", "q", deeds[3]))),
                          Procedure("q", BLOCK, ("wrap", ("with", "q"), ("seq", deeds[4], deeds[5], deeds[6]))))
        self.assert_same(program.words, ("a", "ab", "b", "m", "z"))
        self.assert_same(Program(1, MAIN).words, ())
        self.assert_same(Program(1, main(("call", "p")), empty("p"), empty("b", "block")).words, ())

    def test_has_wraps(self):
        for program, wanted in (
                (FLIPS, False), (LOCKS, True), (Program(3, MAIN), False), (Program(1, MAIN, empty("p", "wrap")), True),
                (Program(1, MAIN, empty("p", "block", "block"), empty("q")), False),
                (Program(1, empty("p", "block", "block", "wrap"), MAIN), True),
                (Program(2, main(("wrap", ("with", "p"), DONE)), empty("p", "block")), False)):
            self.assertIs(program.has_wraps, wanted)

    def test_procedures_by_name(self):
        for program in (FLIPS, LOCKS, Program(2, *several(8))):
            for procedure in program.procedures:
                self.assert_same(program[procedure.named], procedure)
                self.assertIs(procedure.named in program, True)

    def test_names_that_are_not_there(self):
        for name in no_names() + ["a", "twic", "twicee", "mai", "block", "b", "flip"]:
            with self.subTest(name=name):
                self.assert_raises(UnknownName, FLIPS.__getitem__, name, name=name)
                self.assertIs(name in FLIPS, False)
                self.assert_raises(UnknownName, FLIPS.without, name, name=name)

    def test_membership_is_about_names(self):
        for value in (TWICE, FLIPS["main"], FLIPS, FLIPS.names, FLIPS.procedures, ("main",), ["main"], {"main": 1}):
            self.assertIs(value in FLIPS, False)

    def test_texts(self):
        self.assert_same(str(LOCKS), "program of 2 modes, 4 procedures")
        self.assert_same(str(Program(1, MAIN)), "program of 1 modes, 1 procedures")
        self.assert_same(str(Program(3, *several(8))), "program of 3 modes, 8 procedures")

    def test_no_iteration(self):
        self.assert_not_iterable(FLIPS)
        self.assert_not_iterable(Program(1, MAIN))

    def test_equality(self):
        self.assert_equal_things(Program(2, MAIN, TWICE), Program(2, main(DONE), Procedure(*parts_of(TWICE))))
        self.assert_equals_no_other(Program(2, MAIN, TWICE), [
            Program(1, MAIN, TWICE), Program(3, MAIN, TWICE), Program(2, TWICE, MAIN), Program(2, MAIN),
            Program(2, MAIN, TWICE, empty("p")), Program(2, main(deed(0, 0)), TWICE), Program(2, MAIN, LOCKED), TWICE])

    def test_equality_takes_every_value(self):
        program = Program(2, main(FLIP), TWICE)
        self.assert_equals_no_other(program, anything() + [program.procedures, program.names, (program,), str(program)])

    def test_where_all_is_defined(self):
        self.assertEqual(Program.__module__, "blockshanded.base.programs")
        methods = ("of", "with_procedure", "without", "__getitem__", "__contains__", "__len__", "__eq__", "__str__")
        for method in methods:
            self.assertIn(method, vars(Program))

    def test_example(self):
        self.assert_same(
            [LOCKS.names, LOCKS.words, LOCKS.has_wraps, FLIPS["twice"] == TWICE, "deep" in LOCKS, len(FLIPS),
             str(LOCKS)],
            [("again", "deep", "locked", "main"), ("lock", "unlock", "work"), True, True, True, 2,
             "program of 2 modes, 4 procedures"])


def parts_of(procedure):
    """The arguments of which a procedure is made."""
    return procedure.named, procedure.parameters, procedure.body


class WithProcedureTest(ProgramTest):
    def test_in_the_place_of_another_one(self):
        first, last = Procedure("pa", (), deed(0, 1)), Procedure("pc", BLOCK, ("run", "b"))
        program = Program(2, *several(4))
        for procedure, place in ((first, 0), (empty("pb", "wrap"), 1), (last, 2), (main(deed(1, 1)), 3)):
            wanted = program.procedures[:place] + (procedure,) + program.procedures[place + 1:]
            self.assert_same(program.with_procedure(procedure), Program(2, *wanted))
        self.assert_same(program, Program(2, *several(4)))

    def test_as_the_last_one(self):
        program = Program(2, *several(7))
        other = Procedure("aa", BLOCK, ("seq", ("run", "b"), FLIP))
        self.assert_same(program.with_procedure(other), Program(2, *several(7), other))
        self.assert_same(program, Program(2, *several(7)))
        self.assert_same(FLIPS.with_procedure(TWICE), FLIPS)

    def test_ninth_procedure(self):
        program = Program(2, *several(8))
        self.refuse(program, empty("new"))
        self.assert_same(program.with_procedure(empty("pa", "block")).procedures[0], empty("pa", "block"))

    def refuse(self, program, procedure):
        """The procedure does not fit, and the program is as before."""
        before = picture(program)
        with self.subTest(procedure=procedure):
            self.assert_raises(InvalidProgram, program.with_procedure, procedure)
            self.assertEqual(picture(program), before)

    def test_values_that_are_no_procedures(self):
        for value in anything():
            if value not in (TWICE, AGAIN):
                self.refuse(FLIPS, value)
        for value in (("twice", BLOCK, DONE), [TWICE], (TWICE,), {"twice": TWICE}, "twice", LOCKS, None):
            self.refuse(FLIPS, value)

    def test_procedures_that_do_not_fit(self):
        for procedure in (
                empty("main", "block"), empty("twice"), empty("twice", "wrap"), empty("twice", "block", "block"),
                main(("call", "nowhere")), main(deed(0)), main(deed(0, 2)), Procedure("new", (), deed(0, 0, 0)),
                Procedure("new", (), ("call", "twice")), Procedure("new", (), ("wrap", ("with", "main"), DONE)),
                Procedure("new", BLOCK, ("call", "nowhere", ("run", "b")))):
            self.refuse(FLIPS, procedure)

    def test_wraps_and_three_modes(self):
        self.refuse(Program(3, MAIN), empty("p", "wrap"))
        self.refuse(Program(3, MAIN, empty("p")), empty("p", "block", "wrap"))
        self.assertIs(Program(2, MAIN).with_procedure(empty("p", "wrap")).has_wraps, True)
        self.assertIs(Program(2, MAIN, empty("p", "wrap")).with_procedure(empty("p")).has_wraps, False)


class WithoutTest(ProgramTest):
    def test_in_every_place(self):
        program = Program(2, *several(8))
        for place in range(7):
            name = program.procedures[place].named
            left = program.procedures[:place] + program.procedures[place + 1:]
            self.assert_same(program.without(name), Program(2, *left))
        self.assert_same(program, Program(2, *several(8)))

    def refuse(self, program, name):
        """What is left would be no program, and the program is as before."""
        before = picture(program)
        self.assert_raises(InvalidOperation, program.without, name)
        self.assertEqual(picture(program), before)

    def test_main(self):
        for program in (FLIPS, LOCKS, Program(1, MAIN), Program(2, *several(8))):
            self.refuse(program, "main")

    def test_procedures_that_are_called(self):
        self.refuse(FLIPS, "twice")
        for name in ("locked", "again", "deep"):
            self.refuse(LOCKS, name)
        self.refuse(Program(2, MAIN, Procedure("p", (), ("call", "q")), empty("q")), "q")
        self.refuse(Program(2, MAIN, Procedure("p", (), ("wrap", ("with", "q"), DONE)), empty("q", "block")), "q")

    def test_procedures_that_call(self):
        self.assert_same(Program(2, MAIN, Procedure("p", (), ("call", "q")), empty("q")).without("p"),
                         Program(2, MAIN, empty("q")))
        self.assert_same(Program(2, MAIN, Procedure("p", (), ("call", "p"))).without("p"), Program(2, MAIN))

    def test_names_that_are_not_there(self):
        before = picture(LOCKS)
        for name in anything():
            if name != "main":
                with self.subTest(name=name):
                    self.assert_raises(UnknownName, LOCKS.without, name, name=name)
        self.assertEqual(picture(LOCKS), before)


class UnchangedTest(ProgramTest):
    def test_programs_never_change(self):
        before = picture(LOCKS)
        LOCKS.with_procedure(empty("twice"))
        LOCKS.with_procedure(Procedure("deep", WRAP, DONE))
        Program(2, MAIN, AGAIN, DEEP).without("deep")
        for name in LOCKS.names:
            LOCKS[name]
        str(LOCKS), len(LOCKS), LOCKS == FLIPS, "deep" in LOCKS
        self.assertEqual(picture(LOCKS), before)

    def test_errors_change_nothing(self):
        before = picture(FLIPS)
        self.assert_raises(UnknownName, FLIPS.__getitem__, "deep", name="deep")
        self.assert_raises(UnknownName, FLIPS.without, ["twice"], name=["twice"])
        self.assert_raises(InvalidOperation, FLIPS.without, "twice")
        self.assert_raises(InvalidProgram, FLIPS.with_procedure, empty("main", "block"))
        self.assertEqual(picture(FLIPS), before)


if __name__ == "__main__":
    unittest.main()
