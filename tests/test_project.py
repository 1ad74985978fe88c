"""Stage 15: `Project`, [15.1]."""

import random
import time
import unittest

from blockshanded.ask.ends import can_end
from blockshanded.ask.idle import is_idle
from blockshanded.ask.words import can_do
from blockshanded.base.procedures import Procedure
from blockshanded.base.programs import Program
from blockshanded.errors import (
    InvalidNumber, InvalidOperation, InvalidProgram, NothingToUndo, Refused, TooMany, UnknownName)
from blockshanded.house import project as project_module
from blockshanded.house.project import Project
from blockshanded.same.editions import exchanged, without_term
from blockshanded.same.tables import are_alike
from tests.crowds import crowd, flood
from tests.long_runs import DONE, main
from tests.samples import FLIP, FLIPS, GREATEST, LOCKS, LOOP, SKIP, TWICE, PromiseTest, anything, no_names, picture
from tests.test_callers import BOTH, ONCE

BLOCK = (("b", "block"),)
FLIP_ONCE = main(FLIP)


def locks_project():
    """The project of the document."""
    project = Project(LOCKS)
    project.promise("safe", "bars", 1, "work")
    project.promise("works", "does", 0, "work")
    return project


def state_of(project):
    """All that a project shows."""
    return picture((project.program, project.promises, project.deeds, len(project), str(project)))


def history_of(project):
    """All states to which a project can be taken back and brought again."""
    twin = project.twin()
    states = [state_of(twin)]
    while twin.deeds:
        twin.undo()
        states.append(state_of(twin))
    twin = project.twin()
    while True:
        try:
            twin.redo()
        except NothingToUndo:
            return states
        states.append(state_of(twin))


class ProjectTest(PromiseTest):
    def assert_fails(self, project, error, call, *arguments, by_keyword=None, **attributes):
        """The call raises this error and changes nothing, also not what can be taken back and done again."""
        before = history_of(project)
        self.assert_raises(error, call, *arguments, by_keyword=by_keyword, **attributes)
        self.assertEqual(history_of(project), before)


class BasicsTest(ProjectTest):
    def test_a_new_project(self):
        project = Project(LOCKS)
        self.assert_same((project.program, project.promises, project.deeds, len(project)), (LOCKS, {}, (), 0))
        self.assertEqual(str(project), "project of 4 procedures, 0 promises")
        self.assertEqual(str(Project(LOOP)), "project of 1 procedures, 0 promises")

    def test_errors(self):
        for value in anything():
            if value not in (FLIPS, LOCKS):
                self.assert_raises(InvalidProgram, Project, value)

    def test_promises(self):
        project = locks_project()
        project.promise("a", "idle", "again", "b")
        self.assert_same(project.promises, {"a": ("idle", "again", "b"), "safe": ("bars", 1, "work"), "works": ("does", 0, "work")})
        self.assertEqual(list(project.promises), ["a", "safe", "works"])
        self.assert_same((project["safe"], project["works"]), (("bars", 1, "work"), ("does", 0, "work")))
        self.assert_same((len(project), str(project)), (3, "project of 4 procedures, 3 promises"))

    def test_values_that_are_promises(self):
        project = locks_project()
        for value in anything():
            self.assertIs(value in project, False)
            self.assert_raises(UnknownName, project.__getitem__, value, name=value)
        self.assertIs("safe" in project, True)
        self.assertIs("works" in project, True)
        self.assertIs("saf" in project, False)

    def test_nothing_gives_access_to_the_state(self):
        project = locks_project()
        project.promises.clear()
        project.promises["new"] = 5
        self.assertEqual(list(project.promises), ["safe", "works"])
        with self.assertRaises(AttributeError):
            project.program = FLIPS

    def test_equal_projects(self):
        one, other = locks_project(), Project(LOCKS)
        self.assertIs(one == other, False)
        other.promise("works", "does", 0, "work")
        other.promise("safe", "bars", 1, "work")
        self.assert_equal_things(one, other)
        self.assertNotEqual(one.deeds, ())
        other.promise("more", "ends", 0, 0)
        self.assertIs(one != other, True)
        other.forget("more")
        self.assert_equal_things(one, other)
        self.assertNotEqual(one.deeds, other.deeds)
        self.assertIs(Project(FLIPS) == Project(LOCKS), False)
        self.assert_equals_no_other(one, anything() + [LOCKS, one.promises])

    def test_it_cannot_be_iterated_over(self):
        self.assert_not_iterable(locks_project())
        self.assert_not_iterable(Project(FLIPS))

    def test_calls_return_none(self):
        project = locks_project()
        self.assertIsNone(project.promise("end", "ends", 0, 0))
        self.assertIsNone(project.forget("end"))
        self.assertIsNone(project.put(LOCKS))
        self.assertIsNone(project.leave_out("deep", 0, 1))
        self.assertIsNone(project.exchange("locked", "locked"))
        self.assert_same(project.deeds, ("promise", "promise", "promise", "forget", "put", "leave_out", "exchange"))

    def test_where_it_is_defined(self):
        self.assertEqual(Project.__module__, "blockshanded.house.project")
        self.assertIs(project_module.Project, Project)
        for name in ("promise", "forget", "put", "leave_out", "exchange", "undo", "redo", "trial", "during", "twin",
                     "__getitem__", "__contains__", "__len__", "__eq__", "__str__", "program", "promises", "deeds"):
            self.assertIn(name, vars(Project))


class PromiseFormTest(ProjectTest):
    def test_names(self):
        project = locks_project()
        for name in no_names():
            self.assert_fails(project, InvalidOperation, project.promise, name, "ends", 0, 0)
            self.assert_fails(project, InvalidOperation, project.promise, name, "nothing")
        for name in ("safe", "works"):
            self.assert_fails(project, InvalidOperation, project.promise, name, "ends", 0, 0)
            self.assert_fails(project, InvalidOperation, project.promise, name, "bars", 1, "work")
        project.promise("abcdefgh", "ends", 0, 0)

    def test_what_is_no_promise_by_its_form(self):
        project = locks_project()
        wrong = [(), ("ends",), ("ends", 0), ("ends", 0, 0, 0), ("never", 0, -1), ("ends", True, 0), ("ends", 0, False),
                 ("ends", 0, "work"), ("ends", "a", 0), ("does", 0), ("does", "work"), ("does", "work", 0), ("does", 0, 0),
                 ("does", 0, "Work"), ("does", 0, ""), ("does", 0, "abcdefghi"), ("bars", -1, "work"), ("bars", None, "work"),
                 ("alike", "locked"), ("alike", "locked", 0), ("alike", 0, "locked"), ("alike", "locked", "locked", "locked"),
                 ("idle", "again"), ("idle", "again", 0), ("idle", "again", "b", "b"), ("idle", ("again",), "b"),
                 ("end", 0, 0), ("Ends", 0, 0), (0, 0, 0), (None, 0, 0), (("ends",), 0, 0), (["ends"], 0, 0), ("", 0, 0),
                 (("ends", 0, 0),), ("ends", [0], 0), ("ends", 0, {}), ("lasts", 0, 0), (True, 0, 0)]
        for terms in wrong:
            self.assert_fails(project, InvalidOperation, project.promise, "new", *terms)
        for value in anything():
            self.assert_fails(project, InvalidOperation, project.promise, "new", value)
            self.assert_fails(project, InvalidOperation, project.promise, "new", value, 0, 0)
            self.assert_fails(project, InvalidOperation, project.promise, "new", "idle", "again", value, 0)

    def test_by_its_form_and_not_kept(self):
        project = locks_project()
        for terms in (("ends", 2, 0), ("ends", 0, 2), ("never", 2, 0), ("never", 0, 5), ("ends", GREATEST, 0),
                      ("never", 0, GREATEST), ("does", 2, "work"), ("bars", 2, "work"), ("bars", GREATEST, "nothing"),
                      ("alike", "locked", "nowhere"), ("alike", "nowhere", "nowhere"), ("alike", "deep", "deep"),
                      ("alike", "locked", "main"), ("alike", "again", "locked"), ("alike", "main", "deep"),
                      ("idle", "nowhere", "b"), ("idle", "again", "x"), ("idle", "again", "w"), ("idle", "deep", "w"),
                      ("idle", "main", "b"), ("idle", "locked", "b"), ("ends", 0, 1), ("never", 0, 0), ("does", 1, "work"),
                      ("bars", 0, "unlock"), ("does", 0, "other")):
            self.assert_fails(project, Refused, project.promise, "new", *terms, name="new")

    def test_kept(self):
        project = locks_project()
        for number, terms in enumerate((("ends", 0, 0), ("never", 0, 1), ("never", 1, 1), ("does", 0, "unlock"), ("bars", 1, "lock"),
                                        ("bars", 0, "other"), ("alike", "locked", "locked"), ("alike", "main", "main"),
                                        ("idle", "again", "b"))):
            name = "new" + "abcdefghi"[number]
            project.promise(name, *terms)
            self.assert_same(project[name], terms)

    def test_kept_as_the_functions_tell(self):
        for program in (FLIPS, LOCKS, LOOP, SKIP, BOTH):
            project = Project(program)
            questions = []
            for m in range(program.modes):
                for e in range(program.modes):
                    questions += [(("ends", m, e), can_end(program, m, e)), (("never", m, e), not can_end(program, m, e))]
                for word in program.words + ("other",):
                    questions += [(("does", m, word), can_do(program, m, word)), (("bars", m, word), not can_do(program, m, word))]
            blocks = [own for own in program.procedures if "wrap" not in own.kinds]
            for one in blocks:
                for other in blocks:
                    alike = len(one.kinds) == len(other.kinds) and are_alike(program, one.named, other.named)
                    questions.append((("alike", one.named, other.named), alike))
            for own in program.procedures:
                for name, kind in own.parameters:
                    questions.append((("idle", own.named, name), kind == "block" and is_idle(program, own.named, name)))
            for terms, wanted in questions:
                if wanted:
                    project.promise("p", *terms)
                    project.undo()
                else:
                    self.assert_fails(project, Refused, project.promise, "p", *terms, name="p")

    def test_too_many(self):
        project = Project(crowd(9, 9))
        for terms in (("ends", 0, 0), ("never", 0, 0), ("does", 0, "go"), ("bars", 0, "never"), ("idle", "branch", "x")):
            self.assert_fails(project, TooMany, project.promise, "new", *terms, limit=800)
        project = Project(main(DONE, Procedure("p", (("x", "block"), ("y", "block"), ("z", "block")), DONE)))
        self.assert_fails(project, TooMany, project.promise, "new", "alike", "p", "p", limit=800)
        # What is no mode, or not there, is seen without any relation.
        project = Project(crowd(9, 9))
        for terms in (("ends", 5, 0), ("does", 2, "go"), ("alike", "three", "pair"), ("idle", "three", "u"), ("idle", "branch", "b")):
            self.assert_fails(project, Refused, project.promise, "new", *terms, name="new")
        self.assert_fails(project, InvalidOperation, project.promise, "new", "ends", 0)

    def test_forget(self):
        project = locks_project()
        project.forget("safe")
        self.assert_same(project.promises, {"works": ("does", 0, "work")})
        for value in anything() + ["safe", "workss"]:
            self.assert_fails(project, UnknownName, project.forget, value, name=value)
        project.promise("safe", "ends", 0, 0)
        self.assert_same(project["safe"], ("ends", 0, 0))


class ChangeTest(ProjectTest):
    def test_put(self):
        project = locks_project()
        for value in anything():
            if value not in (FLIPS, LOCKS):
                self.assert_fails(project, InvalidProgram, project.put, value)
        self.assert_fails(project, Refused, project.put, FLIPS, name="works")
        project.forget("works")
        project.put(FLIPS)
        self.assert_same((project.program, project.promises), (FLIPS, {"safe": ("bars", 1, "work")}))
        self.assert_same(project.deeds, ("promise", "promise", "forget", "put"))

    def test_the_first_promise_that_is_not_kept(self):
        project = Project(FLIPS)
        project.promise("c", "ends", 0, 1)
        project.promise("b", "does", 0, "flip")
        project.promise("a", "ends", 0, 0)
        self.assert_fails(project, Refused, project.put, main(("do", "go", (None, 0))), name="a")
        self.assert_fails(project, Refused, project.put, main(DONE), name="b")
        self.assert_fails(project, Refused, project.put, main(("or", FLIP, DONE, ("call", "other")), Procedure("other", (), DONE))
                          .with_procedure(Procedure("main", (), ("or", DONE, ("do", "flip", (0, 0))))), name="c")
        # One mode alone: then 0, 1 are not both modes.
        self.assert_fails(project, Refused, project.put, Program(1, Procedure("main", (), ("do", "flip", (0,)))), name="c")

    def test_too_many_before_and_behind_what_is_not_kept(self):
        triple = Procedure("p", (("x", "block"), ("y", "block"), ("z", "block")), DONE)
        small = main(DONE, Procedure("p", BLOCK, DONE))
        project = Project(small)
        project.promise("b", "alike", "p", "p")
        project.promise("c", "ends", 0, 0)
        self.assert_fails(project, TooMany, project.put, main(FLIP, triple), limit=800)
        project.promise("a", "never", 0, 1)
        self.assert_fails(project, Refused, project.put, main(FLIP, triple), name="a")
        self.assert_fails(project, TooMany, project.put, flood(DONE, DONE, DONE), limit=800)

    def test_leave_out(self):
        project = locks_project()
        project.leave_out("deep", 0, 1)
        self.assert_same(project.program, without_term(LOCKS, "deep", 0, 1))
        self.assert_fails(project, InvalidOperation, project.leave_out, "deep", 0, 0)
        project.undo()
        self.assert_fails(project, Refused, project.leave_out, "deep", 0, 0, name="works")
        for name in no_names() + ["nowhere"]:
            self.assert_fails(project, UnknownName, project.leave_out, name, None, None, name=name)
        for value in (1, -1, True, None, "0"):
            self.assert_fails(project, InvalidNumber, project.leave_out, "deep", value, 7, value=value)
        for value in (2, -1, False, None, "0"):
            self.assert_fails(project, InvalidNumber, project.leave_out, "deep", 0, value, value=value)

    def test_exchange(self):
        project = Project(BOTH)
        project.promise("flips", "ends", 0, 1)
        project.exchange("twice", "once")
        self.assert_same(project.program, exchanged(BOTH, "twice", "once"))
        for name in no_names() + ["nowhere"]:
            self.assert_fails(project, UnknownName, project.exchange, name, 5, name=name)
            self.assert_fails(project, UnknownName, project.exchange, "once", name, name=name)
        self.assert_fails(project, InvalidOperation, project.exchange, "once", "main")
        stuck = Project(main(("call", "once", FLIP), ONCE, Procedure("stuck", BLOCK, ("do", "never", (None, None)))))
        stuck.promise("b", "does", 0, "flip")
        stuck.promise("a", "idle", "stuck", "b")
        self.assert_fails(stuck, Refused, stuck.exchange, "once", "stuck", name="b")

    def test_promises_of_each_kind_are_looked_at(self):
        base = main(("call", "once", ("or", FLIP, DONE)), ONCE, TWICE, Procedure("skip", BLOCK, DONE))
        cases = [(("ends", 0, 1), main(DONE)), (("never", 0, 0), None), (("does", 0, "flip"), main(DONE)),
                 (("bars", 0, "stop"), main(("do", "stop", (0, 1)))), (("alike", "once", "once"), main(DONE)),
                 (("idle", "skip", "b"), main(("call", "skip", FLIP), Procedure("skip", BLOCK, ("run", "b"))))]
        for terms, other in cases:
            project = Project(base)
            if other is None:
                self.assert_fails(project, Refused, project.promise, "p", *terms, name="p")
                continue
            project.promise("p", *terms)
            self.assert_fails(project, Refused, project.put, other, name="p")
            project.forget("p")
            project.put(other)
        project = Project(main(FLIP))
        project.promise("p", "never", 0, 0)
        self.assert_fails(project, Refused, project.put, main(DONE), name="p")


class UndoTest(ProjectTest):
    def test_one_after_another(self):
        project = locks_project()
        project.leave_out("deep", 0, 1)
        self.assert_same(project.undo(), 2)
        self.assert_same(project.program, LOCKS)
        self.assert_same(project.undo(), 1)
        self.assert_same(project.promises, {"safe": ("bars", 1, "work")})
        self.assert_same(project.redo(), 2)
        self.assert_same(project.redo(), 3)
        self.assert_same(project.program, without_term(LOCKS, "deep", 0, 1))
        self.assert_same(project.deeds, ("promise", "promise", "leave_out"))
        self.assert_fails(project, NothingToUndo, project.redo, many=1)

    def test_several_at_once(self):
        project = locks_project()
        project.put(LOCKS)
        project.forget("safe")
        wanted = history_of(project)
        self.assert_same(project.undo(many=3), 1)
        self.assert_same(project.undo(many=0), 1)
        self.assert_same(project.redo(many=0), 1)
        self.assert_same(project.undo(many=1), 0)
        self.assert_same((project.promises, project.deeds), ({}, ()))
        self.assert_same(project.redo(many=4), 4)
        self.assertEqual(history_of(project), wanted)

    def test_errors(self):
        project = locks_project()
        project.put(LOCKS)
        project.undo()
        for value in anything():
            if isinstance(value, int) and not isinstance(value, bool) and value >= 0:
                if value > 2:
                    self.assert_fails(project, NothingToUndo, project.undo, by_keyword={"many": value}, many=value)
                if value > 1:
                    self.assert_fails(project, NothingToUndo, project.redo, by_keyword={"many": value}, many=value)
            else:
                self.assert_fails(project, InvalidNumber, project.undo, by_keyword={"many": value}, value=value)
                self.assert_fails(project, InvalidNumber, project.redo, by_keyword={"many": value}, value=value)
        with self.assertRaises(TypeError):
            project.undo(1)
        self.assert_fails(Project(LOCKS), NothingToUndo, Project(LOCKS).undo, many=1)
        self.assert_same(Project(LOCKS).undo(many=0), 0)

    def test_a_new_call_ends_redoing(self):
        for call in (lambda project: project.promise("new", "ends", 0, 0), lambda project: project.forget("safe"),
                     lambda project: project.put(LOCKS), lambda project: project.leave_out("deep", 0, 1),
                     lambda project: project.exchange("locked", "locked")):
            project = locks_project()
            project.undo()
            self.assert_same(project.redo(many=0), 1)
            call(project)
            self.assert_fails(project, NothingToUndo, project.redo, many=1)
            self.assert_same(project.undo(many=2), 0)

    def test_a_call_with_an_error_does_not_end_redoing(self):
        project = locks_project()
        project.undo()
        self.assert_fails(project, Refused, project.promise, "new", "ends", 0, 1, name="new")
        self.assert_fails(project, InvalidProgram, project.put, None)
        self.assert_fails(project, UnknownName, project.forget, "works", name="works")
        self.assert_same(project.redo(), 2)

    def test_random_calls(self):
        maker = random.Random(5)
        project, past, future = Project(BOTH), [], []
        for _ in range(300):
            before = state_of(project)
            kind = maker.randrange(7)
            try:
                if kind == 0:
                    name = maker.choice("abc")
                    project.promise(name, *maker.choice([("ends", 0, 1), ("never", 0, 1), ("does", 0, "flip"), ("alike", "once", "twice")]))
                elif kind == 1:
                    project.forget(maker.choice("abc"))
                elif kind == 2:
                    project.put(maker.choice((BOTH, FLIP_ONCE, FLIPS, exchanged(BOTH, "twice", "once"))))
                elif kind == 3:
                    project.exchange("twice", "once")
                elif kind == 4:
                    project.leave_out("main", 0, maker.randrange(2))
                else:
                    many = maker.randint(0, 3)
                    here, there = (past, future) if kind == 5 else (future, past)
                    if many > len(here):
                        self.assertRaises(NothingToUndo, project.undo if kind == 5 else project.redo, many=many)
                        continue
                    left = project.undo(many=many) if kind == 5 else project.redo(many=many)
                    for _ in range(many):
                        there.append(before)
                        before = here.pop()
                    self.assertEqual((state_of(project), left), (before, len(past)))
                    continue
            except (Refused, InvalidOperation, UnknownName, InvalidNumber):
                self.assertEqual(state_of(project), before)
                continue
            past.append(before)
            future.clear()
        self.assertEqual(len(project.deeds), len(past))


class TrialTest(ProjectTest):
    def test_a_trial(self):
        project = locks_project()
        project.put(LOCKS)
        project.undo()
        before = history_of(project)
        with project.trial() as same:
            self.assertIs(same, project)
            project.forget("safe")
            project.undo(many=3)
            project.put(FLIP_ONCE)
            project.put(LOCKS)
        self.assertEqual(history_of(project), before)

    def test_broken_off_by_an_error(self):
        project = locks_project()
        before = history_of(project)
        for error in (ValueError, Refused, KeyError):
            with self.assertRaises(error):
                with project.trial() as same:
                    same.forget("safe")
                    raise error("wrong")
            self.assertEqual(history_of(project), before)
        with self.assertRaises(Refused):
            with project.trial():
                project.forget("safe")
                project.put(FLIPS)
        self.assertEqual(history_of(project), before)

    def test_trials_within_one_another(self):
        project = locks_project()
        before = history_of(project)
        with project.trial():
            project.forget("safe")
            middle = history_of(project)
            with project.trial() as same:
                same.undo(many=3)
                same.put(FLIPS)
            self.assertEqual(history_of(project), middle)
            with self.assertRaises(NothingToUndo):
                with project.trial():
                    project.undo(many=2)
                    project.undo(many=2)
            self.assertEqual(history_of(project), middle)
            project.undo()
        self.assertEqual(history_of(project), before)

    def test_it_begins_with_the_block(self):
        project = locks_project()
        trial = project.trial()
        project.forget("safe")
        before = history_of(project)
        with trial:
            project.forget("works")
        self.assertEqual(history_of(project), before)

    def test_what_is_taken_back_within(self):
        project = locks_project()
        with project.trial():
            self.assert_same(project.undo(many=2), 0)
            self.assert_fails(project, NothingToUndo, project.undo, many=1)
            self.assert_same(project.redo(many=2), 2)
        self.assert_same(project.deeds, ("promise", "promise"))

    def test_during(self):
        project = locks_project()
        project.put(LOCKS)
        project.undo()
        before = history_of(project)

        def call(same):
            self.assertIs(same, project)
            same.forget("works")
            return same.during(lambda inner: (inner.undo(many=3), inner.put(FLIPS), inner.program)[2]), same.deeds

        self.assert_same(project.during(call), (FLIPS, ("promise", "promise", "forget")))
        self.assertEqual(history_of(project), before)
        for value in (None, 5, [1]):
            self.assert_same(project.during(lambda same: value), value)
        with self.assertRaises(UnknownName):
            project.during(lambda same: (same.forget("works"), same.forget("works")))
        self.assertEqual(history_of(project), before)

    def test_twins(self):
        project = locks_project()
        project.put(LOCKS)
        project.undo()
        twin = project.twin()
        self.assertIs(type(twin), Project)
        self.assertIsNot(twin, project)
        self.assert_equal_things(twin, project)
        self.assertEqual(history_of(twin), history_of(project))
        before = history_of(project)
        twin.undo(many=2)
        twin.put(FLIPS)
        self.assertEqual(history_of(project), before)
        other = project.twin()
        project.forget("safe")
        self.assertEqual(history_of(other), before)
        self.assert_same(other.redo(), 3)

    def test_twins_within_a_trial(self):
        project = locks_project()
        with project.trial():
            project.forget("safe")
            twin = project.twin()
        self.assert_same(twin.deeds, ("promise", "promise", "forget"))
        self.assert_same(twin.undo(many=3), 0)


class TimeTest(PromiseTest):
    def test_answers_are_quick(self):
        deeds = [("do", "a", tuple(e if m == mode else None for m in range(3))) for mode in range(3) for e in range(3)]
        body = ("or", ("run", "b")) + tuple(("call", "p", ("or", ("run", "b"), deed)) for deed in deeds)
        project = Project(main(("call", "p", ("or", DONE, deeds[1])), Procedure("p", BLOCK, body),
                               Procedure("q", BLOCK, eval(repr(body).replace("'p'", "'q'"))), modes=3))
        begin = time.perf_counter()
        for number, terms in enumerate((("ends", 0, 0), ("does", 0, "a"), ("alike", "p", "q"), ("bars", 1, "go"), ("ends", 2, 1))):
            project.promise("p" + "abcde"[number], *terms)
        self.assert_raises(Refused, project.leave_out, "q", 0, 3, name="pc")
        project.put(project.program)
        project.undo(many=6)
        self.assertLess(time.perf_counter() - begin, 5)


class ExampleTest(PromiseTest):
    def test_example(self):
        project = Project(LOCKS)
        project.promise("safe", "bars", 1, "work")
        project.promise("works", "does", 0, "work")
        self.assert_same(
            [project.leave_out("deep", 0, 1), project.program == without_term(LOCKS, "deep", 0, 1), project.undo(),
             project.deeds, project["safe"]],
            [None, True, 2, ("promise", "promise"), ("bars", 1, "work")])


if __name__ == "__main__":
    unittest.main()
