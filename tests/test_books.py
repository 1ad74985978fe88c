"""Stage 8: `book_of`, `true_relation`, `is_book` and `meanings_of`, [0.13], [0.14] and [0.18]."""

import time
import unittest

from blockshanded.base.procedures import Procedure
from blockshanded.base.programs import Program
from blockshanded.errors import InvalidOperation, InvalidProgram, TooMany, UnknownName
from blockshanded.mean import books
from blockshanded.mean.books import MAX_CONTEXTS, book_of, is_book, meanings_of, true_relation
from blockshanded.mean.reckoning import is_context, needed, reckoned
from blockshanded.mean.spaces import Space
from tests.crowds import ALL, BRANCH, DEEDS, PAIR, THREE, crowd, flood, lesser_crowd
from tests.random_programs import random_program
from tests.samples import AGAIN, FLIPS, LOCKED, LOCKS, LOOP, SKIP, TWICE, PromiseTest, anything, no_names, picture
from tests.slowly import Slow

DONE = ("seq",)
MAIN = ("main", ())
BLOCK = (("b", "block"),)
WRAP = (("w", "wrap"),)
LOCK_TABLE = (0,) * 8 + (1,) * 8
WORDS = (None, "a", "other")


def main(body, *others, modes=2):
    """A program with this body of main."""
    return Program(modes, Procedure("main", (), body), *others)


def itself_by_others():
    """Procedures that call themselves by others, with blocks and wraps that grow."""
    ping = Procedure("ping", WRAP + BLOCK, ("or", ("run", "b"), ("call", "pong", ("with", "again", ("own", "w")), (
        "wrap", ("own", "w"), ("run", "b")))))
    pong = Procedure("pong", WRAP + BLOCK, ("seq", ("do", "tick", (1, None)), ("call", "ping", ("own", "w"), (
        "seq", ("run", "b"), ("do", "tock", (None, 1))))))
    return main(("call", "ping", ("with", "locked"), ("do", "work", (0, 1))), ping, pong, LOCKED, AGAIN)


NAMED = {"flips": FLIPS, "locks": LOCKS, "loop": LOOP, "skip": SKIP, "by others": itself_by_others(),
         "lesser": lesser_crowd(2, 2)}


class BookTest(PromiseTest):
    def check(self, program, word=None, limit=3000):
        """The book is what is found slowly; whether it could be found so."""
        slow = Slow(program, word)
        wanted = slow.book(limit=limit)
        if wanted is None:
            return False
        if len(wanted) > 800:
            self.assert_raises(TooMany, book_of, program, by_keyword={"word": word}, limit=800)
            return True
        book = book_of(program, word=word)
        self.assert_same(book, wanted)
        self.assertIs(is_book(program, book, word=word), True)
        return True

    def test_constant(self):
        self.assert_same(MAX_CONTEXTS, 800)

    def test_small_programs(self):
        self.assert_same(book_of(main(DONE)), {MAIN: 9})
        self.assert_same(book_of(main(DONE), word="go"), {MAIN: 17})
        self.assert_same(book_of(main(DONE, TWICE, LOCKED)), {MAIN: 9})
        self.assert_same(book_of(LOOP), {MAIN: 0})
        self.assert_same(book_of(LOOP, word="tick"), {MAIN: 2})
        self.assert_same(book_of(LOOP, word="tock"), {MAIN: 0})
        self.assert_same(book_of(SKIP), {MAIN: 1, ("skip", (1,)): 1})
        self.assert_same(book_of(SKIP, word="tick"), {MAIN: 1, ("skip", (2,)): 1})

    def test_named_programs(self):
        for name, program in NAMED.items():
            for word in (None, "work", "tick", "flip"):
                with self.subTest(name=name, word=word):
                    self.assertIs(self.check(program, word), True)

    def test_random_programs(self):
        many = 0
        for seed in range(250):
            for word in WORDS[:2]:
                with self.subTest(seed=seed, word=word):
                    many += self.check(random_program(seed), word, limit=500)
        self.assertGreater(many, 450)

    def test_contexts_of_lesser_relations_are_not_there(self):
        # At first main has no pairs, and so the argument has none.
        program = main(("or", ("do", "go", (1, 0)), ("call", "twice", ("call", "main"))), TWICE)
        self.assert_same(book_of(program), {MAIN: 15, ("twice", (15,)): 15})
        program = main(("call", "twice", ("call", "late")), TWICE, Procedure("late", (), ("call", "later")),
                       Procedure("later", (), ("do", "go", (1, 1))))
        self.assert_same(book_of(program), {("late", ()): 10, ("later", ()): 10, MAIN: 10, ("twice", (10,)): 10})

    def test_contexts_behind_a_part_without_pairs_are_there(self):
        program = main(("seq", ("do", "never", (None, None)), ("call", "twice", ("call", "main"))), TWICE)
        self.assert_same(book_of(program), {MAIN: 0, ("twice", (0,)): 0})

    def test_wraps_of_wraps(self):
        book = book_of(LOCKS)
        tables = {context[1][0] for context in book if context[0] == "deep"}
        self.assertEqual(tables, {LOCK_TABLE, (0,) * 16})
        self.assertEqual(sorted({context[0] for context in book}), ["again", "deep", "locked", "main"])
        for relation in range(16):
            self.assert_same(book[("locked", (relation,))], LOCK_TABLE[relation])
            self.assert_same(book[("again", (LOCK_TABLE, relation))], 0)

    def test_the_least_relations_of_procedures_that_call_themselves(self):
        program = main(("or", ("call", "main"), ("call", "p")), Procedure("p", (), ("seq", ("call", "main"), ("call", "p"))))
        self.assert_same(book_of(program), {MAIN: 0, ("p", ()): 0})

    def test_keys_ascend(self):
        for program in (LOCKS, itself_by_others(), lesser_crowd(1, 1)):
            for word in (None, "work"):
                book = book_of(program, word=word)
                self.assertEqual(list(book), sorted(book))

    def test_just_what_is_needed(self):
        for program in (FLIPS, LOCKS, LOOP, SKIP):
            for word in (None, "tick"):
                book = book_of(program, word=word)
                asked = {MAIN}
                for context in book:
                    self.assertIs(is_context(program, context, word=word), True)
                    self.assert_same(reckoned(program, context, book, word=word), book[context])
                    asked.update(needed(program, context, book, word=word))
                self.assertEqual(asked, set(book))

    def test_a_new_dict_each_time(self):
        book = book_of(FLIPS)
        book.clear()
        self.assert_same(book_of(FLIPS), {MAIN: 15, ("twice", (15,)): 15})

    def test_errors(self):
        for value in anything():
            if value not in (FLIPS, LOCKS):
                self.assert_raises(InvalidProgram, book_of, value)
                self.assert_raises(InvalidProgram, book_of, value, by_keyword={"word": 5})
        for word in no_names():
            if word is not None:
                self.assert_raises(InvalidOperation, book_of, FLIPS, by_keyword={"word": word})
                self.assert_raises(InvalidOperation, book_of, crowd(4, 9), by_keyword={"word": word})


class TooManyTest(PromiseTest):
    def test_just_800(self):
        for rows, single in ((4, 7), (4, 8), (1, 0), (3, 9)):
            program = crowd(rows, single)
            book = book_of(program)
            self.assertEqual(len(book), 728 + 16 * rows + single)
            self.assertIs(is_book(program, book), True)
            self.assert_same(true_relation(program, MAIN), book[MAIN])
        self.assertEqual(len(book_of(crowd(4, 8))), 800)

    def test_more_than_800(self):
        for rows, single in ((4, 9), (5, 0), (9, 9)):
            program = crowd(rows, single)
            self.assert_raises(TooMany, book_of, program, limit=800)
            self.assert_raises(TooMany, true_relation, program, MAIN, limit=800)
            self.assert_raises(TooMany, meanings_of, program, "one", limit=800)
            self.assert_raises(TooMany, book_of, crowd(4, 8), by_keyword={"word": "go"}, limit=800)

    def test_more_than_800_by_lesser_relations_alone(self):
        for many in (5, 6):
            for late in (1, 2, 3):
                program = lesser_crowd(many, late)
                self.assertGreater(len(Slow(program).explored()[0]), 800)
                book = book_of(program)
                self.assertEqual(len(book), 148 + late)
                self.assert_same(book[MAIN], 15)
                self.assert_same(book, Slow(program).book())

    def test_wraps_of_blocks_by_lesser_relations_alone(self):
        # Without pairs the blocks that are handed come to many wraps of many blocks, with all pairs to few.
        turn = Procedure("turn", (("x", "block"), ("y", "block"), ("z", "block")), ("seq", ("call", "use", (
            "with", "turn", ("or", ("run", "z"), ("run", "x")), ("or", ("run", "x"), ("run", "y"))))))
        use = Procedure("use", WRAP, DONE)
        begin = Procedure("begin", BLOCK, ("or", ALL, ("call", "turn", ("run", "b"), ("run", "b"), ("run", "b"))))
        program = main(("call", "begin", ("call", "main")), turn, use, begin)
        self.assertGreater(len(Slow(program).explored(limit=5000)[0]), 1400)
        self.assert_same(book_of(program), Slow(program).book(limit=5000))

    def test_far_more_than_800(self):
        begin = time.perf_counter()
        for blocks in ((DONE, DONE, DONE), (("call", "main"),) * 3, (ALL, ("call", "main"), DONE)):
            for word in (None, "go", "other"):
                self.assert_raises(TooMany, book_of, flood(*blocks), by_keyword={"word": word}, limit=800)
        self.assertLess(time.perf_counter() - begin, 20)

    def test_true_relation_counts_from_the_context_on(self):
        program = crowd(9, 9)
        for context in (("branch", (0,)), ("more", ()), ("one", (7,)), ("pair", (1, 2, 3))):
            self.assert_same(true_relation(program, context), 9)
        rows = [Procedure("p" + letter, (), ("call", "three", *[("with", "pair", deed, other) for other in DEEDS[:3]]))
                for letter, deed in zip("abcde", DEEDS)]
        program = main(("seq",) + tuple(("call", row.named) for row in rows), *rows, PAIR, THREE)
        # Five times three rows of 64, the procedures that hand them, main, and "three" with one table.
        self.assert_raises(TooMany, book_of, program, by_keyword={"word": "other"}, limit=800)
        self.assert_raises(TooMany, true_relation, program, MAIN, by_keyword={"word": "other"}, limit=800)
        self.assert_same(true_relation(program, ("pa", ()), word="other"), 17)
        self.assertEqual(len(book_of(program)), 15 * 16 + 7)

    def test_the_context_itself_counts(self):
        # From "first" on there are as many contexts as from main on in the program without it: 800 or 801.
        for single in (8, 9):
            program = crowd(4, single)
            inner = program.with_procedure(Procedure("first", (), program["main"].body))
            inner = inner.with_procedure(Procedure("main", (), ("call", "first")))
            self.assert_raises(TooMany, book_of, inner, limit=800)
            if single == 8:
                self.assert_same(true_relation(inner, ("first", ())), true_relation(program, MAIN))
            else:
                self.assert_raises(TooMany, true_relation, inner, ("first", ()), limit=800)

    def test_lesser_relations_do_not_count_for_true_relations(self):
        self.assert_same(true_relation(lesser_crowd(6, 3), MAIN), 15)
        self.assert_same(true_relation(lesser_crowd(1, 3), ("begin", (0,))), 15)
        self.assert_raises(TooMany, true_relation, lesser_crowd(6, 3), ("begin", (0,)), limit=800)


class TrueRelationTest(PromiseTest):
    def check(self, program, context, word=None):
        wanted = Slow(program, word).book(context)
        with self.subTest(context=context, word=word):
            self.assert_same(true_relation(program, context, word=word), wanted[context])

    def test_all_contexts_of_books(self):
        for program in (FLIPS, LOCKS, LOOP, SKIP, itself_by_others()):
            for word in (None, "work"):
                book = book_of(program, word=word)
                for context in list(book)[::1 + len(book) // 30]:
                    self.assert_same(true_relation(program, context, word=word), book[context])

    def test_other_contexts(self):
        for relation in range(16):
            self.check(FLIPS, ("twice", (relation,)))
            self.check(LOCKS, ("locked", (relation,)))
            self.check(LOCKS, ("again", (tuple(range(16)), relation)))
            self.check(LOCKS, ("again", ((15,) * 16, relation)))
        for table in (tuple(range(16)), LOCK_TABLE, (0,) * 15 + (9,), tuple(relation | 6 for relation in range(16))):
            self.check(LOCKS, ("deep", (table,)))
        for relation in range(0, 64, 5):
            self.check(FLIPS, ("twice", (relation,)), "flip")

    def test_procedures_that_main_does_not_call(self):
        self.check(SKIP, ("lost", ()))
        self.check(SKIP, ("lost", ()), "tick")

    def test_greater_meanings(self):
        space = Space(2)
        for program, name in ((FLIPS, "twice"), (LOCKS, "locked")):
            relations = [true_relation(program, (name, (relation,))) for relation in range(16)]
            self.assertIs(space.is_monotone(tuple(relations)), True)

    def test_what_is_no_context(self):
        for value in anything():
            self.assert_raises(InvalidOperation, true_relation, FLIPS, value)
        for value in (("twice", (16,)), ("twice", ()), ("nowhere", ()), ("main", (0,)), ["main", ()], ("twice", (True,))):
            self.assert_raises(InvalidOperation, true_relation, FLIPS, value)
        true_relation(FLIPS, ("twice", (16,)), word="flip")
        self.assert_raises(InvalidOperation, true_relation, FLIPS, ("twice", (64,)), by_keyword={"word": "flip"})
        self.assert_raises(InvalidOperation, true_relation, LOCKS, ("deep", (LOCK_TABLE,)), by_keyword={"word": "work"})

    def test_tables_that_are_not_monotone(self):
        for table in (LOCK_TABLE[::-1], tuple(range(16))[::-1], (1,) + (0,) * 15, (15,) * 15 + (14,)):
            self.assertIs(is_context(LOCKS, ("deep", (table,))), True)
            self.assert_raises(InvalidOperation, true_relation, LOCKS, ("deep", (table,)))
            self.assert_raises(InvalidOperation, true_relation, LOCKS, ("again", (table, 3)))
        self.assert_raises(InvalidOperation, true_relation, LOCKS, ("deep", (tuple(range(64))[::-1],)),
                           by_keyword={"word": "work"})

    def test_errors(self):
        for value in anything():
            if value not in (FLIPS, LOCKS):
                self.assert_raises(InvalidProgram, true_relation, value, 7, by_keyword={"word": 7})
        for word in no_names():
            if word is not None:
                self.assert_raises(InvalidOperation, true_relation, FLIPS, MAIN, by_keyword={"word": word})
        self.assert_raises(InvalidOperation, true_relation, crowd(9, 9), ("pair", (0, 0)))


class ClosedTest(PromiseTest):
    def check(self, program, value, wanted, word=None):
        self.assertIs(is_book(program, value, word=word), wanted)

    def test_books_of_programs(self):
        for program in NAMED.values():
            for word in (None, "work"):
                self.check(program, book_of(program, word=word), True, word)

    def test_the_greatest_book(self):
        for program in (FLIPS, LOCKS):
            for word, size in ((None, 16), ("work", 64)):
                book, pending = {}, [MAIN]
                while pending:
                    context = pending.pop()
                    book[context] = size - 1
                    pending.extend(set(needed(program, context, dict.fromkeys(book, size - 1), word=word)) - set(book))
                book = {context: size - 1 for context in book}
                more = {other for context in book for other in needed(program, context, book, word=word)}
                book.update(dict.fromkeys(more, size - 1))
                self.check(program, book, Slow(program, word).is_closed(book), word)

    def test_one_context_too_few(self):
        for program, word in ((FLIPS, None), (FLIPS, "flip"), (LOCKS, None), (lesser_crowd(1, 2), None)):
            book = book_of(program, word=word)
            for left_out in book:
                less = {context: book[context] for context in book if context != left_out}
                self.check(program, less, False, word)

    def test_one_pair_less(self):
        for program, word in ((FLIPS, None), (FLIPS, "flip"), (LOCKS, None), (LOCKS, "work")):
            book = book_of(program, word=word)
            for context in book:
                for bit in range(6):
                    if book[context] >> bit & 1:
                        self.check(program, {**book, context: book[context] - (1 << bit)}, False, word)

    def test_one_pair_more(self):
        closed = 0
        for program, word in ((FLIPS, None), (LOCKS, None), (itself_by_others(), None), (LOOP, "tick")):
            slow, book = Slow(program, word), book_of(program, word=word)
            for context in book:
                for bit in range(slow.modes * slow.ends):
                    if not book[context] >> bit & 1:
                        more = {**book, context: book[context] + (1 << bit)}
                        wanted = slow.is_closed(more)
                        closed += wanted
                        self.check(program, more, wanted, word)
        self.assertGreater(closed, 5)

    def test_books_that_are_closed_again(self):
        self.check(LOCKS, {**book_of(LOCKS), MAIN: 3}, True)
        self.check(FLIPS, {MAIN: 15, ("twice", (15,)): 15, ("twice", (0,)): 0}, True)
        self.check(FLIPS, {MAIN: 15, ("twice", (15,)): 15, ("twice", (3,)): 2}, False)
        self.check(FLIPS, {MAIN: 15, ("twice", (15,)): 15, ("twice", (3,)): 3}, True)
        self.check(LOOP, {MAIN: 1}, True)
        self.check(LOOP, {MAIN: 3}, True, "tick")
        self.check(LOOP, {MAIN: 1}, False, "tick")
        self.check(LOOP, {MAIN: 1}, True, "tock")

    def test_contexts_with_tables_that_are_not_monotone(self):
        book = book_of(LOCKS)
        table = LOCK_TABLE[::-1]
        more = {**book, ("again", (table, 0)): table[table[0]]}
        self.check(LOCKS, more, Slow(LOCKS).is_closed(more))
        self.check(LOCKS, {**more, ("again", (table, 0)): 15}, True)
        self.check(LOCKS, {**book, ("again", ((15,) * 16, 0)): 14}, False)

    def test_the_order_of_the_keys_does_not_matter(self):
        book = book_of(LOCKS)
        self.check(LOCKS, {context: book[context] for context in list(book)[::-1]}, True)

    def test_random_books(self):
        for seed in range(60):
            program = random_program(seed)
            slow = Slow(program)
            book = slow.book(limit=200)
            if book is not None:
                self.check(program, book, True)
                less = {context: book[context] & 5 for context in book}
                self.check(program, less, slow.is_closed(less))

    def test_books_beyond_800_contexts(self):
        program = crowd(9, 9)
        book = Slow(program).book()
        self.assertEqual(len(book), 881)
        self.check(program, book, True)
        self.check(program, {**book, MAIN: 0}, False)

    def test_what_is_no_dict_from_contexts_to_relations(self):
        for value in anything():
            self.check(FLIPS, value, False)
            self.check(FLIPS, value, False, "flip")
        book = {MAIN: 15, ("twice", (15,)): 15}
        self.check(FLIPS, book, True)
        for key in ("main", 0, None, (), ("main",), ("twice", (16,)), ("twice", (True,)), ("nowhere", ()), ("main", (0,))):
            self.check(FLIPS, {**book, key: 15}, False)
        for value in (16, -1, True, False, None, "15", (15,), [15]):
            self.check(FLIPS, {**book, ("twice", (3,)): value}, False)
            self.check(FLIPS, {**book, MAIN: value}, False)
        for value in (list(book), tuple(book.items()), [book], (book,)):
            self.check(FLIPS, value, False)

    def test_books_without_main(self):
        self.check(FLIPS, {}, False)
        self.check(FLIPS, {("twice", (15,)): 15}, False)

    def test_books_of_other_words_and_programs(self):
        self.check(FLIPS, book_of(FLIPS, word="flip"), False)
        self.check(FLIPS, book_of(FLIPS), False, "flip")
        self.check(LOCKS, book_of(FLIPS), False)
        self.check(FLIPS, book_of(LOCKS), False)
        # Without deeds of the word, the numbers of the relations differ all the same.
        self.check(FLIPS, book_of(FLIPS, word="other"), False)

    def test_errors(self):
        for value in anything():
            if value not in (FLIPS, LOCKS):
                self.assert_raises(InvalidProgram, is_book, value, {}, by_keyword={"word": 3})
        for word in no_names():
            if word is not None:
                self.assert_raises(InvalidOperation, is_book, FLIPS, {MAIN: 15}, by_keyword={"word": word})
                self.assert_raises(InvalidOperation, is_book, FLIPS, None, by_keyword={"word": word})

    def test_values_are_not_changed(self):
        book = book_of(LOCKS)
        before = picture(book)
        self.check(LOCKS, book, True)
        self.assertEqual(picture(book), before)


class MeaningsTest(PromiseTest):
    def test_all_procedures(self):
        for program in NAMED.values():
            for word in (None, "work"):
                book = book_of(program, word=word)
                for name in program.names:
                    wanted = tuple(sorted(meanings for other, meanings in book if other == name))
                    self.assert_same(meanings_of(program, name, word=word), wanted)

    def test_small_programs(self):
        self.assert_same(meanings_of(FLIPS, "main"), ((),))
        self.assert_same(meanings_of(FLIPS, "twice"), ((15,),))
        self.assert_same(meanings_of(SKIP, "lost"), ())
        self.assert_same(meanings_of(SKIP, "skip", word="tick"), ((2,),))
        self.assert_same(meanings_of(LOCKS, "locked"), tuple((relation,) for relation in range(16)))

    def test_errors(self):
        for value in anything():
            if value not in (FLIPS, LOCKS):
                self.assert_raises(InvalidProgram, meanings_of, value, 5, by_keyword={"word": 5})
        for name in anything():
            if name != "main":
                self.assert_raises(UnknownName, meanings_of, FLIPS, name, name=name)
                self.assert_raises(UnknownName, meanings_of, crowd(9, 9), name, by_keyword={"word": 5}, name=name)
        for word in no_names():
            if word is not None:
                self.assert_raises(InvalidOperation, meanings_of, crowd(9, 9), "main", by_keyword={"word": word})

    def test_where_all_is_defined(self):
        for name in ("book_of", "true_relation", "is_book", "meanings_of"):
            self.assertEqual(getattr(books, name).__module__, "blockshanded.mean.books")


class TimeTest(PromiseTest):
    def test_answers_are_quick(self):
        begin = time.perf_counter()
        for word in (None, "tick"):
            book_of(itself_by_others(), word=word)
            book_of(LOCKS, word=word)
            book_of(lesser_crowd(6, 3), word=word)
            true_relation(main(DONE, BRANCH, PAIR, THREE), ("branch", (0,)), word=word)
        self.assertLess(time.perf_counter() - begin, 10)


class ExampleTest(PromiseTest):
    def test_examples(self):
        self.assert_same(
            [book_of(FLIPS), len(book_of(LOCKS)), book_of(LOCKS)[("main", ())], true_relation(LOCKS, ("locked", (12,))),
             is_book(FLIPS, {("main", ()): 15, ("twice", (15,)): 15})],
            [{("main", ()): 15, ("twice", (15,)): 15}, 51, 1, 1, True])
        self.assert_same(
            [is_book(FLIPS, {("main", ()): 15}), meanings_of(LOCKS, "deep") == (((0,) * 16,), ((0,) * 8 + (1,) * 8,)),
             book_of(Program(1, Procedure("main", (), ("call", "main"))))],
            [False, True, {("main", ()): 0}])


if __name__ == "__main__":
    unittest.main()
