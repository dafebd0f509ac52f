import unittest

from lineturns import errors
from lineturns.errors import (
    InvalidCommand, InvalidFault, InvalidRound, InvalidRow, InvalidRule, InvalidText, LineError, NoRow, Refused,
)
from samples import any_values

WITH_WORD = (InvalidRow, InvalidRule)
WITH_AT = (InvalidText, InvalidRound, Refused, NoRow)
WITHOUT = (InvalidFault, InvalidCommand)


class ClassesTest(unittest.TestCase):
    def test_the_base_class_is_a_value_error(self):
        self.assertEqual(LineError.__bases__, (ValueError,))

    def test_direct_subclasses(self):
        for kind in (InvalidRow, InvalidRule, InvalidText, InvalidRound, InvalidFault, InvalidCommand, Refused):
            self.assertEqual(kind.__bases__, (LineError,), kind)

    def test_line_error_has_no_other_subclasses(self):
        names = sorted(kind.__name__ for kind in LineError.__subclasses__())
        self.assertEqual(names, ["InvalidCommand", "InvalidFault", "InvalidRound", "InvalidRow", "InvalidRule",
                                 "InvalidText", "Refused"])

    def test_no_row_is_an_index_error_and_no_line_error(self):
        self.assertEqual(NoRow.__bases__, (IndexError,))
        self.assertNotIsInstance(NoRow(0), ValueError)

    def test_all_are_defined_in_the_module(self):
        for kind in (LineError,) + WITH_WORD + WITH_AT + WITHOUT:
            self.assertEqual(kind.__module__, "lineturns.errors")
            self.assertIs(getattr(errors, kind.__name__), kind)


class ArgumentsTest(unittest.TestCase):
    def test_word_is_kept_itself(self):
        for kind in WITH_WORD:
            for value in any_values() + [object(), {}, {1: 2}]:
                self.assertIs(kind(value).word, value)
                self.assertIs(kind(word=value).word, value)

    def test_at_is_kept_itself(self):
        for kind in WITH_AT:
            for value in any_values() + [object(), {}, {1: 2}]:
                self.assertIs(kind(value).at, value)
                self.assertIs(kind(at=value).at, value)

    def test_a_kept_list_is_not_copied(self):
        value = [1]
        error = Refused(value)
        value.append(2)
        self.assertEqual(error.at, [1, 2])

    def test_an_argument_is_needed(self):
        for kind in WITH_WORD + WITH_AT:
            with self.assertRaises(TypeError):
                kind()
            with self.assertRaises(TypeError):
                kind(1, 2)

    def test_errors_without_arguments_can_be_raised(self):
        for kind in WITHOUT:
            with self.assertRaises(LineError) as caught:
                raise kind()
            self.assertIs(type(caught.exception), kind)

    def test_raised_errors_keep_their_attributes(self):
        for kind in WITH_WORD:
            with self.assertRaises(LineError) as caught:
                raise kind("mode")
            self.assertEqual(caught.exception.word, "mode")
        with self.assertRaises(IndexError) as caught:
            raise NoRow(-1)
        self.assertEqual(caught.exception.at, -1)

    def test_errors_are_not_iterable(self):
        for error in (InvalidRow("mode"), InvalidRound(0), InvalidFault(), NoRow(0)):
            with self.assertRaises(TypeError):
                iter(error)


if __name__ == "__main__":
    unittest.main()
