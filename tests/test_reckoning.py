"""Stage 7: `is_context`, `reckoned` and `needed`, [0.11], [0.12] and [7.1]."""

import random
import time
import unittest

from blockshanded.base.procedures import Procedure
from blockshanded.base.programs import Program
from blockshanded.errors import InvalidMeaning, InvalidOperation, InvalidProgram
from blockshanded.mean import reckoning
from blockshanded.mean.reckoning import is_context, needed, reckoned
from blockshanded.mean.spaces import Space
from tests.random_programs import random_program
from tests.samples import FLIP, FLIPS, LOCKED, LOCKS, LOOP, SKIP, TWICE, PromiseTest, anything, no_names, picture
from tests.slowly import Slow

DONE = ("seq",)
MAIN = ("main", ())
BLOCK = (("b", "block"),)
WRAP = (("w", "wrap"),)
NEVER = ("do", "never", (None, None))
# The table of LOCKED, by its relation for each relation.
LOCK_TABLE = (0,) * 8 + (1,) * 8


def deed(word, *table):
    return ("do", word, table)


def main(body, *others, modes=2):
    """A program with this body of main."""
    return Program(modes, Procedure("main", (), body), *others)


class ContextTest(PromiseTest):
    def check(self, program, value, wanted, word=None):
        with self.subTest(value=value, word=word):
            self.assertIs(is_context(program, value, word=word), wanted)
            if not wanted:
                by_keyword = {"word": word}
                self.assert_raises(InvalidOperation, reckoned, program, value, {}, by_keyword=by_keyword)
                self.assert_raises(InvalidOperation, needed, program, value, {}, by_keyword=by_keyword)

    def test_main(self):
        for program in (FLIPS, LOCKS, LOOP, SKIP):
            for word in (None, "flip", "other"):
                self.check(program, MAIN, True, word)
                for value in (("main",), ("main", 0), ("main", []), ("main", (0,)), ["main", ()], ("main", (), ()),
                              ("Main", ()), ((), "main"), "main", ()):
                    self.check(program, value, False, word)

    def test_blocks(self):
        for word, size in ((None, 16), ("flip", 64), ("other", 64)):
            for relation in (0, 1, 15, 16, 63, 64, -1, 10 ** 39):
                self.check(FLIPS, ("twice", (relation,)), 0 <= relation < size, word)
            for value in (True, False, None, "0", (0,), (0,) * 16, [0], {}):
                self.check(FLIPS, ("twice", (value,)), False, word)
            for meanings in ((), (0, 0), [0], 0, None, {0: 0}, "0"):
                self.check(FLIPS, ("twice", meanings), False, word)

    def test_three_modes(self):
        program = main(DONE, TWICE, modes=3)
        for word, size in ((None, 512), ("go", 4096)):
            for relation in (0, 511, 512, 4095, 4096):
                self.check(program, ("twice", (relation,)), relation < size, word)

    def test_wraps(self):
        for word, size in ((None, 16), ("work", 64)):
            for table in (LOCK_TABLE, (0,) * 16, (15,) * 16, (0,) * 64, (63,) * 64, (0,) * 15 + (16,), (0,) * 15 + (-1,),
                          (0,) * 15 + (False,), [0] * 16, 0, (0,) * 17, (), None):
                right = isinstance(table, tuple) and len(table) == size and -1 not in table and 16 not in table
                right = right and not any(entry is False for entry in table)
                self.check(LOCKS, ("deep", (table,)), right, word)
                self.check(LOCKS, ("again", (table, 5)), right, word)
                self.check(LOCKS, ("again", (5, table)), False, word)
                self.check(LOCKS, ("locked", (table,)), picture(table) == picture(0), word)

    def test_tables_that_are_not_monotone(self):
        for table in (LOCK_TABLE[::-1], tuple(range(16))[::-1], (15,) + (0,) * 15):
            self.check(LOCKS, ("deep", (table,)), True)
            self.check(LOCKS, ("again", (table, 0)), True)

    def test_names(self):
        for name in ("nowhere", "flip", "b", "", "twic"):
            self.check(FLIPS, (name, (0,)), False)
            self.check(FLIPS, (name, ()), False)
        for value in anything():
            if value != "main":
                self.check(FLIPS, (value, ()), False)
                self.check(FLIPS, (value, (0,)), False)

    def test_anything(self):
        for value in anything():
            self.check(LOCKS, value, False)
            self.check(LOCKS, value, False, "work")
            self.check(LOCKS, ("deep", value), False)
            self.check(LOCKS, ("deep", (value,)), False)
            self.check(LOCKS, ("again", ((0,) * 16, value)), isinstance(value, int) and not isinstance(value, bool)
                       and 0 <= value < 16)

    def test_errors(self):
        for value in anything():
            if value not in (FLIPS, LOCKS):
                self.assert_raises(InvalidProgram, is_context, value, MAIN)
                self.assert_raises(InvalidProgram, is_context, value, None, by_keyword={"word": 7})
        for word in no_names():
            if word is not None:
                self.assert_raises(InvalidOperation, is_context, FLIPS, MAIN, by_keyword={"word": word})
                self.assert_raises(InvalidOperation, is_context, FLIPS, 5, by_keyword={"word": word})


class ReckonedTest(PromiseTest):
    def check(self, program, context, book, relation, contexts=None, word=None):
        """The relation of the body by the book, and the contexts that are needed."""
        with self.subTest(context=context, word=word):
            before = picture(book)
            self.assert_same(reckoned(program, context, book, word=word), relation)
            if contexts is not None:
                self.assert_same(needed(program, context, book, word=word), tuple(contexts))
            self.assertEqual(picture(book), before)

    def test_deeds(self):
        space, watched = Space(2), Space(2, watched=True)
        for table in ((0, 0), (1, 0), (None, 1), (None, None)):
            pairs = tuple((m, e) for m, e in enumerate(table) if e is not None)
            done = tuple((m, 2) for m, e in enumerate(table) if e is not None)
            program = main(deed("go", *table))
            self.check(program, MAIN, {}, space.relation(pairs), ())
            self.check(program, MAIN, {}, watched.relation(pairs), (), word="other")
            self.check(program, MAIN, {}, watched.relation(done), (), word="go")

    def test_seq(self):
        space, watched = Space(2), Space(2, watched=True)
        self.check(main(DONE), MAIN, {}, space.same, ())
        self.check(main(DONE), MAIN, {}, watched.same, (), word="go")
        program = main(("seq", deed("a", 1, None), deed("b", None, 0)))
        self.check(program, MAIN, {}, space.relation(((0, 0),)))
        self.check(program, MAIN, {}, watched.relation(((0, 0),)), word="c")
        self.check(program, MAIN, {}, watched.relation(((0, 2),)), word="a")
        self.check(program, MAIN, {}, watched.relation(((0, 2),)), word="b")
        stuck = main(("seq", deed("a", 1, 0), NEVER, deed("c", 0, 0)))
        self.check(stuck, MAIN, {}, 0)
        self.check(stuck, MAIN, {}, watched.relation(((0, 2), (1, 2))), word="a")
        self.check(stuck, MAIN, {}, 0, word="c")
        self.check(stuck, MAIN, {}, 0, word="never")

    def test_or(self):
        program = main(("or", deed("a", 1, None), deed("b", 0, None), deed("a", None, None)))
        self.check(program, MAIN, {}, Space(2).relation(((0, 0), (0, 1))))
        self.check(program, MAIN, {}, Space(2, watched=True).relation(((0, 0), (0, 2))), word="a")

    def test_run(self):
        for relation in range(16):
            self.check(FLIPS, ("twice", (relation,)), {}, Space(2).followed(relation, relation), ())
        for relation in range(64):
            self.check(FLIPS, ("twice", (relation,)), {}, Space(2, watched=True).followed(relation, relation), (),
                       word="flip")

    def test_call(self):
        for relation in (0, 4, 15):
            self.check(FLIPS, MAIN, {("twice", (15,)): relation}, relation, (("twice", (15,)),))
        self.check(FLIPS, MAIN, {("twice", (6,)): 7, ("twice", (9,)): 1}, 0, (("twice", (15,)),))
        self.check(LOOP, MAIN, {MAIN: 1}, 1, (MAIN,))
        self.check(LOOP, MAIN, {}, 0, (MAIN,))

    def test_call_of_calls(self):
        program = main(("call", "twice", ("call", "twice", FLIP)), TWICE)
        self.check(program, MAIN, {}, 0, (("twice", (0,)), ("twice", (6,))))
        self.check(program, MAIN, {("twice", (6,)): 9}, 0, (("twice", (6,)), ("twice", (9,))))
        self.check(program, MAIN, {("twice", (6,)): 9, ("twice", (9,)): 5}, 5, (("twice", (6,)), ("twice", (9,))))
        self.check(program, MAIN, {("twice", (6,)): 6}, 6, (("twice", (6,)),))

    def test_wrap_with_own(self):
        for relation in (0, 5, 8, 15):
            for table in (LOCK_TABLE, tuple(range(16)), tuple(range(16))[::-1]):
                self.check(LOCKS, ("again", (table, relation)), {}, table[table[relation]], ())

    def test_wrap_with_with(self):
        program = main(("wrap", ("with", "pair", FLIP), DONE),
                       Procedure("pair", (("x", "block"), ("y", "block")), ("seq", ("run", "x"), ("run", "y"))))
        self.check(program, MAIN, {("pair", (6, 9)): 3, ("pair", (9, 6)): 5}, 3, (("pair", (6, 9)),))
        self.check(program, MAIN, {}, 0, (("pair", (6, 9)),))

    def test_wraps_that_are_handed(self):
        rows = tuple(("locked", (relation,)) for relation in range(16))
        self.check(LOCKS, MAIN, {}, 0, (("deep", ((0,) * 16,)),) + rows)
        book = {("locked", (relation,)): LOCK_TABLE[relation] for relation in range(16)}
        self.check(LOCKS, MAIN, book, 0, (("deep", (LOCK_TABLE,)),) + rows)
        book[("deep", (LOCK_TABLE,))] = 11
        book[("deep", ((0,) * 16,))] = 7
        self.check(LOCKS, MAIN, book, 11, (("deep", (LOCK_TABLE,)),) + rows)

    def test_wraps_that_are_handed_in_wraps(self):
        table = tuple(range(16))[::-1]
        rows = tuple(("again", (table, relation)) for relation in range(16))
        book = {("again", (table, relation)): relation for relation in range(16)}
        called = ("deep", (tuple(range(16)),))
        self.check(LOCKS, ("deep", (table,)), book, table[Space(2).relation(((0, 0), (1, 1)))], rows + (called,))
        book[called] = 8
        self.check(LOCKS, ("deep", (table,)), book, table[9] | 8, rows + (called,))

    def test_wraps_with_blocks_that_are_handed(self):
        pair = Procedure("pair", (("x", "block"), ("y", "block")), ("seq", ("run", "x"), ("run", "y")))
        user = Procedure("user", WRAP, ("wrap", ("own", "w"), DONE))
        program = main(("call", "user", ("with", "pair", FLIP)), pair, user)
        rows = tuple(("pair", (6, relation)) for relation in range(16))
        book = {("pair", (6, relation)): 15 - relation for relation in range(16)}
        self.check(program, MAIN, book, 0, rows + (("user", (tuple(range(16))[::-1],)),))
        self.check(program, MAIN, {("pair", (7, 3)): 3}, 0, rows + (("user", ((0,) * 16,)),))

    def test_watched_words_need_wider_tables(self):
        self.assertEqual(len(needed(LOCKS, MAIN, {}, word="work")), 65)
        self.assertEqual(len(needed(LOCKS, MAIN, {}, word="other")), 65)

    def test_parts_behind_a_part_without_pairs(self):
        program = main(("seq", NEVER, ("call", "p", NEVER), ("or", ("call", "q"), NEVER)),
                       Procedure("p", BLOCK, DONE), Procedure("q", (), DONE))
        self.check(program, MAIN, {("p", (0,)): 15, ("q", ()): 15}, 0, (("p", (0,)), ("q", ())))
        wrapped = main(("seq", NEVER, ("wrap", ("with", "twice"), ("call", "twice", FLIP))), TWICE)
        self.check(wrapped, MAIN, {}, 0, (("twice", (0,)), ("twice", (6,))))

    def test_what_is_asked_for_twice_is_needed_once(self):
        program = main(("seq", ("call", "twice", FLIP), ("call", "twice", FLIP), ("call", "main")), TWICE)
        self.check(program, MAIN, {("twice", (6,)): 6, MAIN: 6}, 6, (MAIN, ("twice", (6,))))

    def test_contexts_ascend(self):
        body = ("seq",) + tuple(("call", name, deed("go", *table)) for name in "zam" for table in ((1, 0), (0, 0), (0, 1)))
        program = main(body, *[Procedure(name, BLOCK, DONE) for name in "azm"])
        wanted = tuple((name, (relation,)) for name in "amz" for relation in (5, 6, 9))
        self.check(program, MAIN, {}, 0, wanted)

    def test_books_with_more_than_is_needed(self):
        book = {("twice", (relation,)): 15 - relation for relation in range(16)}
        book[MAIN] = 3
        self.check(FLIPS, MAIN, book, 0, (("twice", (15,)),))
        self.check(FLIPS, ("twice", (6,)), book, 9, ())

    def test_random_books(self):
        for seed in range(150):
            program, draw = random_program(seed), random.Random(seed)
            for word in (None, "a", "other"):
                slow = Slow(program, word)
                if slow.size > 1000:
                    continue
                book, pending = {}, [MAIN]
                for _ in range(12):
                    context = pending.pop(draw.randrange(len(pending)))
                    relation, asked = slow.reckon(context, book)
                    self.check(program, context, book, relation, sorted(asked), word)
                    book[context] = draw.randrange(slow.size)
                    pending.extend(sorted(asked) or [MAIN])
                    pending.append(context)


class BookErrorsTest(PromiseTest):
    def check_error(self, error, program, context, book, word=None):
        with self.subTest(context=context, book=book, word=word):
            self.assert_raises(error, reckoned, program, context, book, by_keyword={"word": word})
            self.assert_raises(error, needed, program, context, book, by_keyword={"word": word})

    def test_no_dict(self):
        for value in anything():
            if value != {}:
                self.check_error(InvalidMeaning, FLIPS, MAIN, value)
        self.check_error(InvalidMeaning, FLIPS, MAIN, ((MAIN, 0),))
        self.check_error(InvalidMeaning, FLIPS, MAIN, [(MAIN, 0)])

    def test_keys_that_are_no_contexts(self):
        for key in ("main", "twice", (), ("main",), ("twice", ()), ("twice", (16,)), ("twice", (-1,)), ("twice", (True,)),
                    ("twice", (0, 0)), ("twice", 0), ("nowhere", ()), ("main", (0,)), 0, None, True, (("main", ()),),
                    ("twice", ((0,) * 16,))):
            self.check_error(InvalidMeaning, FLIPS, MAIN, {key: 0})
            self.check_error(InvalidMeaning, FLIPS, MAIN, {("twice", (15,)): 3, key: 0})
            self.check_error(InvalidMeaning, FLIPS, ("twice", (0,)), {MAIN: 3, key: 0})

    def test_values_that_are_no_relations(self):
        for value in (16, -1, 10 ** 39, True, False, None, "0", (0,), [], {}, (0,) * 16):
            self.check_error(InvalidMeaning, FLIPS, MAIN, {MAIN: value})
            self.check_error(InvalidMeaning, FLIPS, MAIN, {("twice", (15,)): 0, MAIN: value})
        self.check_error(InvalidMeaning, FLIPS, MAIN, {MAIN: 64}, "flip")

    def test_books_are_those_of_the_word(self):
        reckoned(FLIPS, MAIN, {("twice", (63,)): 63}, word="flip")
        self.check_error(InvalidMeaning, FLIPS, MAIN, {("twice", (63,)): 0})
        self.check_error(InvalidMeaning, FLIPS, MAIN, {MAIN: 63})
        self.check_error(InvalidOperation, FLIPS, ("twice", (63,)), {})
        self.check_error(InvalidMeaning, LOCKS, MAIN, {("deep", ((0,) * 16,)): 0}, "work")
        self.check_error(InvalidMeaning, LOCKS, MAIN, {("deep", ((0,) * 64,)): 0})

    def test_the_first_error_is_raised(self):
        wrong_book, wrong_context = {("twice", (16,)): 0}, ("twice", (16,))
        for value in anything():
            if value not in (FLIPS, LOCKS):
                self.check_error(InvalidProgram, value, wrong_context, wrong_book, word=5)
        for word in no_names():
            if word is not None:
                self.check_error(InvalidOperation, FLIPS, MAIN, {}, word)
                self.check_error(InvalidOperation, FLIPS, MAIN, wrong_book, word)
                self.check_error(InvalidOperation, FLIPS, wrong_context, wrong_book, word)
        self.check_error(InvalidOperation, FLIPS, wrong_context, wrong_book)
        self.check_error(InvalidMeaning, FLIPS, MAIN, wrong_book)

    def test_where_all_is_defined(self):
        for name in ("is_context", "reckoned", "needed"):
            self.assertEqual(getattr(reckoning, name).__module__, "blockshanded.mean.reckoning")


class LimitsTest(PromiseTest):
    def test_programs_at_the_limits(self):
        """Bodies of forty terms that call all of eight procedures, in three modes; and that hand wraps, in two."""
        names = "abcdefg"
        deeds = [deed("go", *table) for table in ((0, 1, 2), (1, 2, 0), (None, 0, 1))]
        calls = tuple(("call", name, deeds[place % 3], ("call", name, DONE, DONE, DONE), DONE)
                      for place, name in enumerate(names[:4]))
        body = ("or",) + calls
        blocks = tuple((x, "block") for x in "xyz")
        program = main(body, *[Procedure(name, blocks, body) for name in names], modes=3)
        rows = ("seq",) + (("call", "h", ("with", "t", ("with", "t", ("with", "l")))),) * 7
        wraps = main(rows, Procedure("h", WRAP, ("wrap", ("own", "w"), DONE)), LOCKED,
                     Procedure("t", WRAP + BLOCK, ("wrap", ("own", "w"), ("run", "b"))),
                     Procedure("l", BLOCK, ("run", "b")))
        begin = time.perf_counter()
        for word in (None, "go"):
            self.assertEqual(len(needed(program, MAIN, {}, word=word)), 8)
            self.assertEqual(len(needed(wraps, MAIN, {}, word=word)), (16 if word is None else 64) * 2 + 1)
        self.assertLess(time.perf_counter() - begin, 5)


class ExampleTest(PromiseTest):
    def test_examples(self):
        self.assert_same(
            [reckoned(FLIPS, ("twice", (6,)), {}), reckoned(FLIPS, ("main", ()), {("twice", (15,)): 4}),
             needed(FLIPS, ("main", ()), {}), needed(LOCKS, ("locked", (3,)), {})],
            [9, 4, (("twice", (15,)),), ()])
        self.assert_same(
            [reckoned(LOCKS, ("locked", (8,)), {}), reckoned(LOCKS, ("locked", (7,)), {}),
             len(needed(LOCKS, ("main", ()), {})), reckoned(FLIPS, ("twice", (36,)), {}, word="flip")],
            [1, 0, 17, 36])


if __name__ == "__main__":
    unittest.main()
