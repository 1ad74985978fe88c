"""Programs with hundreds of contexts, in the end or by lesser relations alone: "Stage 8" and "Stage 9", [0.13]."""

import time
import unittest

from blockshanded.ask.ends import end_paper, ends, is_end_paper
from blockshanded.errors import TooMany
from blockshanded.mean.books import book_of, is_book, meanings_of, true_relation
from blockshanded.runs.runs import Run
from blockshanded.text.texts import read_program
from tests.samples import PromiseTest
from tests.slowly import Slow

MAIN = ("main", ())
ALL_DEEDS = tuple(" ".join("-" * m + str(e) + "-" * (2 - m)) for m in range(3) for e in range(3))
MAIN_TURNED = "(seq (call main) (or (do a - - 0) (do a - - 1) (do a - - 2)))"
STEPS = "(call c (do a - - -) (do a - - -) (or (do a 0 - -) (seq (call main) (do a 1 2 -))))"
# What main hands grows as long as main does, and so there are very many contexts of pa to pf.
GROWING = f"(call pa {MAIN_TURNED} {MAIN_TURNED} {MAIN_TURNED})"
COUNTING = (
    "proc c x block y block z block : (or (seq (do a 2 2 2) (run y) (do a - - 0) (run z)) (call c (or (do a 0 - -) "
    "(seq (run x) (do a 1 2 -)) (seq (do a - 0 -) (run x) (do a - - 0)) (seq (do a - - 1) (run x) (do a - - 0))) (or "
    "(seq (do a 2 - -) (run x) (do a - - 0)) (seq (run y) (do a 1 2 -)) (seq (do a - 0 -) (run y) (do a - - 0)) (seq "
    "(do a - - 1) (run y) (do a - - 0))) (run z)))")


def climbing(name, deeds, behind=""):
    """A procedure that calls itself with each of the deeds added to its block."""
    calls = " ".join(f"(call {name} (or (run x) (do a {deed})))" for deed in deeds)
    return f"proc {name} x block : (or (run x) {calls}{behind})"


def lines_of_growing(parts, last="(run x)"):
    """The procedures pa to pe, or some of them, which add to three blocks whatever can be added."""
    blocks = "xyz"
    adding = []
    for block in blocks:
        for deed in ALL_DEEDS:
            handed = " ".join(f"(or (run {x}) (do a {deed}))" if x == block else f"(run {x})" for x in blocks)
            adding.append(f"(call pa {handed})")
    names = ["p" + letter for letter in "abcdef"[:parts]]
    lines = []
    for place, name in enumerate(names):
        calls = " ".join(adding[place * 5:place * 5 + 5])
        following = f"(call {names[place + 1]} (run x) (run y) (run z))" if place + 1 < parts else last
        lines.append(f"proc {name} x block y block z block : (or (run x) {calls} {following})")
    return lines


def program_of(*lines):
    return read_program("\n".join(("program 3",) + lines))


SIXTY = program_of("proc main : (call f (do a - - -))", climbing("f", ALL_DEEDS[:5]))


class PapersTest(PromiseTest):
    """The program of the issue: three modes and 33 contexts."""

    def test_which_kind(self):
        for start in range(3):
            for end in range(3):
                wanted = "run" if (start, end) in ((0, 0), (0, 1), (0, 2), (1, 0), (1, 1)) else "book"
                self.assertEqual(end_paper(SIXTY, start, end)[0], wanted)
        self.assertEqual([ends(SIXTY, start) for start in range(3)], [(0, 1, 2), (0, 1), ()])
        self.assertEqual(len(book_of(SIXTY)), 33)

    def test_each_is_judged_for_each_pair(self):
        pairs = [(start, end) for start in range(3) for end in range(3)]
        papers = {pair: end_paper(SIXTY, *pair) for pair in pairs}
        for pair, paper in papers.items():
            for start, end in pairs:
                if paper[0] == "run":
                    wanted = (start, end) == pair
                else:
                    wanted = papers[(start, end)][0] == "book"
                self.assertIs(is_end_paper(SIXTY, start, end, paper), wanted)

    def test_bent_books(self):
        book = book_of(SIXTY)
        for context in book:
            for bit in (0, 3, 5):
                bent = {**book, context: book[context] ^ (1 << bit)}
                wanted = Slow(SIXTY).is_closed(bent)
                self.assertIs(is_book(SIXTY, bent), wanted)
                for start, end in ((0, 0), (1, 2), (2, 2)):
                    has_pair = bent[MAIN] >> (start * 3 + end) & 1
                    self.assertIs(is_end_paper(SIXTY, start, end, ("book", bent)), wanted and not has_pair)

    def test_other_programs(self):
        for many in (1, 2, 4):
            program = program_of("proc main : (seq (call f (do a 1 - -)) (call f (do a - 0 -)))", climbing("f", ALL_DEEDS[:many]))
            relation = Slow(program).book()[MAIN]
            for start in range(3):
                for end in range(3):
                    paper = end_paper(program, start, end)
                    self.assertEqual(paper[0], "run" if relation >> (start * 3 + end) & 1 else "book")
                    self.assertIs(is_end_paper(program, start, end, paper), True)
                    if paper[0] == "run":
                        run = Run(program, start, *paper[1].choices)
                        self.assertEqual((run.state, run.mode), ("ended", end))

    def test_it_is_quick(self):
        begin = time.perf_counter()
        for _ in range(10):
            for start in range(3):
                for end in range(3):
                    is_end_paper(SIXTY, start, end, end_paper(SIXTY, start, end))
        self.assertLess(time.perf_counter() - begin, 1)


class ManyContextsTest(PromiseTest):
    def test_513_contexts(self):
        program = program_of("proc main : (call f (do a - - -))", climbing("f", ALL_DEEDS))
        book = book_of(program)
        self.assertEqual(len(book), 513)
        self.assert_same((book[MAIN], book[("f", (0,))]), (511, 511))
        self.assert_same(book, {**{("f", (relation,)): 511 for relation in range(512)}, MAIN: 511})
        self.assertEqual(list(book), sorted(book))
        self.assertIs(is_book(program, book), True)
        self.assert_same(meanings_of(program, "f"), tuple((relation,) for relation in range(512)))

    def test_more_than_800(self):
        program = program_of("proc main : (seq (call f (do a - - -)) (call g (do a - - -)))",
                             climbing("f", ALL_DEEDS), climbing("g", ALL_DEEDS))
        self.assert_raises(TooMany, book_of, program, limit=800)
        self.assert_raises(TooMany, meanings_of, program, "f", limit=800)
        self.assert_raises(TooMany, true_relation, program, MAIN, limit=800)
        self.assert_same(true_relation(program, ("f", (0,))), 511)
        self.assert_same(true_relation(program, ("g", (3,))), 511)

    def test_the_books_by_rounds(self):
        behinds = ["", " (seq (run x) (call f (run x)))", " (call g (call f (run x)))", " (seq (do a 2 1 -) (call main))"]
        for behind in behinds:
            for many in (2, 4, 5):
                program = program_of("proc main : (or (call f (do a - - -)) (seq (do a 1 2 -) (call main)))",
                                     climbing("f", ALL_DEEDS[4:4 + many], behind), climbing("g", ALL_DEEDS[:2]))
                for word in (None, "b"):
                    slow = Slow(program, word)
                    book = slow.book()
                    self.assert_same(book_of(program, word=word), book)
                    for context in list(book)[::17]:
                        self.assert_same(true_relation(program, context, word=word), book[context])

    def test_not_quite_800(self):
        # On the way, blocks are handed with relations that grow later; what is asked for by them is not needed.
        program = program_of(
            "proc main : (or (do c - 2 0) (seq (call q (or (do b 1 2 2) (do a 1 0 1))) (do a - 1 1) (do c - 0 1)) (call s) "
            "(wrap (with q) (call t (do b - - -) (call r (call q (do c - 2 2)) (call r (do c 1 1 1) (do c 1 0 2))) (call q (call "
            "main)))) (seq (call p (call p (call t (do b - 0 -) (do b 1 - 0) (do a 0 0 -)) (call q (do b 0 1 -)) (do c 0 0 0)) (do "
            "b 2 1 1) (do a 0 0 -))))",
            "proc p x block y block z block : (or (do b - 1 0) (call q (call t (call r (run z) (call q (do c 0 - 2))) (call p (or "
            "(do b 2 0 0) (run z)) (or (do c 0 2 1) (run x) (run z)) (run y)) (call p (call q (run z)) (seq (run x) (run z)) (run "
            "x)))) (run z))",
            "proc q x block : (or (do c 1 2 1) (call main))",
            "proc r x block y block : (or (run y) (seq (seq (run y) (seq (call t (do b - 1 1) (do c 0 2 -) (do c 0 0 2)) (call p (run "
            "x) (run y) (do a 0 1 1)))) (or (call q (call r (do b - 2 2) (do b 2 0 -)))) (or (call s))))",
            "proc s : (or (do b - 1 2) (call r (call r (call r (seq (do a 2 2 2) (do b - 2 -) (do c 2 1 2)) (or (do c 1 - 1) (do b 0 "
            "0 1))) (call t (call p (do b 0 0 1) (do c 2 0 0) (do b 2 0 2)) (call p (do a - 1 2) (do a - 0 2) (do c 0 2 2)) (do b 1 0 "
            "2))) (do b 2 2 0)))",
            "proc t x block y block z block : (or (run y) (run z) (seq (call t (run x) (run y) (do b - - 1)) (run x) (wrap (with q) "
            "(run z))) (call main))")
        book = book_of(program)
        self.assertEqual(len(book), 797)
        self.assertIs(is_book(program, book), True)
        self.assert_same(true_relation(program, MAIN), book[MAIN])

    def test_it_is_quick(self):
        first = program_of("proc main : (call f (do a - - -))", climbing("f", ALL_DEEDS))
        second = program_of("proc main : (seq (call f (do a - - -)) (call g (do a - - -)))",
                            climbing("f", ALL_DEEDS), climbing("g", ALL_DEEDS))
        begin = time.perf_counter()
        for _ in range(10):
            book_of(first)
            self.assert_raises(TooMany, book_of, second, limit=800)
        self.assertLess(time.perf_counter() - begin, 3)


class LesserTest(PromiseTest):
    """Programs in which lesser relations lead to far more contexts than can be reckoned."""

    def check(self, lines, same, many):
        """The book has so many contexts and is closed, and main ends as in a program without the growing part."""
        program = program_of(*lines)
        begin = time.perf_counter()
        book = book_of(program)
        self.assertLess(time.perf_counter() - begin, 5)
        self.assertEqual(len(book), many)
        self.assertIs(is_book(program, book), True)
        relation = Slow(program_of(*same)).book()[MAIN]
        self.assert_same(book[MAIN], relation)
        self.assert_same(true_relation(program, MAIN), relation)
        for start in range(3):
            for end in ends(program, start):
                self.assertEqual(end_paper(program, start, end)[1].mode, end)
        return book

    def test_behind_and_ahead_of_what_has_no_pairs(self):
        same = ["proc main : " + STEPS, COUNTING]
        for growing in (f"(seq {GROWING} (do a - - -))", f"(seq (do a - - -) {GROWING})"):
            lines = [f"proc main : (or {STEPS} {growing})", COUNTING] + lines_of_growing(6)
            book = self.check(lines, same, 26)
            for name in ("pa", "pb", "pc", "pd", "pe", "pf"):
                self.assert_same(book[(name, (511, 511, 511))], 511)

    def test_what_has_no_pairs_is_found_late(self):
        same = ["proc main : " + STEPS, COUNTING]
        for growing in (f"(seq {GROWING} (call never))", f"(seq (call never) {GROWING})"):
            lines = [f"proc main : (or {STEPS} {growing})", COUNTING] + lines_of_growing(5)
            self.check(lines + ["proc never : (seq (call never) (do a 0 1 2))"], same, 26)

    def test_what_is_handed_is_not_run(self):
        same = ["proc main : " + STEPS, COUNTING]
        lines = [f"proc main : (or {STEPS} (call drop {GROWING}))", COUNTING] + lines_of_growing(5)
        self.check(lines + ["proc drop x block : do a - - -"], same, 26)

    def test_what_adds_nothing(self):
        same = ["proc main : " + STEPS, COUNTING]
        lines = [f"proc main : (or {STEPS} (seq {GROWING} (do a 0 - -) (do a - 0 -)))", COUNTING] + lines_of_growing(6)
        self.check(lines, same, 26)

    def test_at_each_step(self):
        steps = COUNTING.replace(": (or ", ": (or (call h (run z)) ")
        same = ["proc main : " + STEPS, steps, "proc h z block : do a - - -"]
        for behind in ("(do a - - -)", "(call h (run z))", "(do a 0 - -) (do a - 0 -)"):
            growing = f"proc h z block : (seq (call pa (run z) (run z) (run z)) {behind})"
            self.check(["proc main : " + STEPS, steps] + lines_of_growing(5) + [growing], same, 341)

    def test_two_block_parameters(self):
        handed = [f"(call f (or (run x) (do a {deed})) (run y))" for deed in ALL_DEEDS[:4]]
        handed += [f"(call f (run y) (or (run x) (do a {deed})))" for deed in ALL_DEEDS[4:5]]
        other = [f"(call f (or (run y) (do a {deed})) (run x))" for deed in ALL_DEEDS[5:]]
        same = ["proc main : " + STEPS, COUNTING]
        lines = [f"proc main : (or {STEPS} (seq (call f {MAIN_TURNED} {MAIN_TURNED}) (do a - - -)))", COUNTING,
                 f"proc f x block y block : (or (run y) {' '.join(handed)} (call g (run x) (run y)))",
                 f"proc g x block y block : (or (run x) {' '.join(other)})"]
        self.check(lines, same, 22)

    def test_wraps(self):
        growing = [
            "proc p x block y block : (or (run x) (run y))",
            "proc w v wrap : (or (wrap (own v) (seq)) (call w (with q (own v))) (call w (with r (own v))) "
            "(call w (with s (own v))) (call w (with u (own v))))",
            "proc q v wrap y block : (wrap (own v) (seq (do a 1 0) (run y)))",
            "proc r v wrap y block : (seq (wrap (own v) (run y)) (or (do a 1 -) (do a - 1)))",
            "proc s v wrap y block : (or (wrap (own v) (or (run y) (do a 0 -))) (seq (run y) (do a 1 -)))",
            "proc u v wrap y block : (wrap (own v) (seq (run y) (run y) (do a - 1)))"]
        steps = "(call c (do a - -) (do a - -) (or (do a 0 -) (seq (call main) (do a 1 0))))"
        counting = ("proc c x block y block z block : (or (seq (do a 1 1) (run y) (do a - 0) (run z)) (call c (or (do a 0 -) "
                    "(seq (run x) (do a 1 0)) (seq (do a - 0) (run x))) (or (seq (run x) (do a - 0)) (seq (do a - 1) "
                    "(run y)) (seq (run y) (do a 1 -))) (run z)))")
        same = read_program("\n".join(["program 2", f"proc main : {steps}", counting]))
        for dead in ("(do a - -)", "(do a 0 -)"):
            main = f"proc main : (or {steps} (seq (call w (with p (call main))) {dead}))"
            program = read_program("\n".join(["program 2", main, counting] + growing))
            book = book_of(program)
            self.assertIs(is_book(program, book), True)
            self.assert_same(book[MAIN], Slow(same).book()[MAIN])
            self.assertEqual(len(book), 153)
        begin = read_program("\n".join(["program 2", "proc main : (call w (with p (do a 0 -)))"] + growing))
        self.assert_raises(TooMany, book_of, begin, limit=800)


if __name__ == "__main__":
    unittest.main()
