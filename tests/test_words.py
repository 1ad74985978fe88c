"""Stage 1: `is_name`."""

import unittest

from blockshanded.base.words import is_name
from tests.samples import PromiseTest, no_names

LETTERS = "abcdefghijklmnopqrstuvwxyz"


class NamesTest(PromiseTest):
    def test_one_to_eight_letters(self):
        for many in range(1, 9):
            self.assertIs(is_name("abcdefgh"[:many]), True)
            self.assertIs(is_name("z" * many), True)

    def test_no_letter_and_nine_letters(self):
        self.assertIs(is_name(""), False)
        self.assertIs(is_name("abcdefghi"), False)
        self.assertIs(is_name("a" * 9), False)
        self.assertIs(is_name("a" * 100), False)

    def test_each_character_in_each_place(self):
        for code in [10] + list(range(32, 127)):
            character = chr(code)
            for text in (character, character + "a", "a" + character, "a" + character + "a", "abcdefg" + character):
                with self.subTest(text=text):
                    self.assertIs(is_name(text), character in LETTERS)

    def test_words_of_the_document(self):
        for word in ("main", "do", "seq", "or", "run", "call", "wrap", "own", "with", "block", "unlock"):
            self.assertIs(is_name(word), True)

    def test_values_that_are_no_names(self):
        for value in no_names():
            with self.subTest(value=value):
                self.assertIs(is_name(value), False)

    def test_sequences_of_letters_are_no_names(self):
        for value in (("a",), ["a", "b"], {"a": "b"}, (("a", "b"),)):
            self.assertIs(is_name(value), False)


if __name__ == "__main__":
    unittest.main()
