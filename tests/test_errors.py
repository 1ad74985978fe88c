"""Stage 1: the error classes [1.1]."""

import unittest

from blockshanded import errors
from blockshanded.errors import (
    HandError, InvalidCommand, InvalidMeaning, InvalidNumber, InvalidOperation, InvalidProgram, NothingToUndo,
    ParseError, Refused, TooMany, UnknownName)
from tests.samples import PromiseTest, anything

WITH_MESSAGE = (HandError, InvalidProgram, InvalidMeaning, InvalidOperation, InvalidCommand)
HAND_ERRORS = (InvalidProgram, InvalidMeaning, InvalidOperation, InvalidCommand, ParseError)
BASES = {
    HandError: ValueError,
    UnknownName: KeyError,
    InvalidNumber: IndexError,
    NothingToUndo: LookupError,
    Refused: ArithmeticError,
    TooMany: OverflowError,
}
KEPT = {
    ParseError: "line",
    UnknownName: "name",
    InvalidNumber: "value",
    NothingToUndo: "many",
    Refused: "name",
    TooMany: "limit",
}


class ErrorsTest(PromiseTest):
    def test_hand_errors_are_directly_derived_from_hand_error(self):
        for error in HAND_ERRORS:
            with self.subTest(error=error.__name__):
                self.assertEqual(error.__bases__, (HandError,))

    def test_the_others_are_directly_derived_from_an_error_of_python(self):
        for error, base in BASES.items():
            with self.subTest(error=error.__name__):
                self.assertEqual(error.__bases__, (base,))

    def test_no_error_is_derived_from_another_one(self):
        alone = HAND_ERRORS + tuple(BASES)
        for error in alone:
            for other in alone:
                derived = error is other or (other is HandError and error in HAND_ERRORS)
                with self.subTest(error=error.__name__, other=other.__name__):
                    self.assertIs(issubclass(error, other), derived)

    def test_errors_with_a_message(self):
        for error in WITH_MESSAGE:
            with self.subTest(error=error.__name__):
                with self.assertRaises(error) as caught:
                    raise error("this is wrong")
                self.assertIs(type(caught.exception), error)

    def test_errors_that_keep_what_they_take(self):
        for error, attribute in KEPT.items():
            for value in anything():
                with self.subTest(error=error.__name__, value=value):
                    with self.assertRaises(error) as caught:
                        raise error(value)
                    self.assert_same(getattr(caught.exception, attribute), value)

    def test_errors_are_caught_as_what_they_are_derived_from(self):
        for error in KEPT:
            base = error.__bases__[0]
            with self.subTest(error=error.__name__):
                with self.assertRaises(base):
                    raise error(3)

    def test_errors_are_defined_in_their_module(self):
        for error in WITH_MESSAGE + tuple(KEPT):
            with self.subTest(error=error.__name__):
                self.assertEqual(error.__module__, "blockshanded.errors")
                self.assertIs(getattr(errors, error.__name__), error)


if __name__ == "__main__":
    unittest.main()
