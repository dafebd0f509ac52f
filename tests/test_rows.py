import inspect
import unittest
from itertools import product

from lineturns.errors import InvalidRow
from lineturns.rows import Row
from samples import MOVES, NAMES, NO_NAMES, PICKS, any_values, other_values

WORDS = ("mode", "pick", "move", "then", "also")
RIGHT = ("run", "past", "on", "next", True)


def wrong_word(*values):
    """What the error keeps that a row of these values raises, or None."""
    try:
        Row(*values)
    except InvalidRow as error:
        return error.word
    return None


def with_thing(at, value):
    return RIGHT[:at] + (value,) + RIGHT[at + 1:]


class AttributesTest(unittest.TestCase):
    def test_arguments_are_attributes(self):
        row = Row("run", "past", "on", "next", True)
        self.assertEqual((row.mode, row.pick, row.move, row.then), ("run", "past", "on", "next"))
        self.assertIs(row.also, True)

    def test_also_is_false_when_left_out(self):
        self.assertIs(Row("run", "past", "on", "next").also, False)
        self.assertIs(Row("run", "past", "on", "next", False).also, False)

    def test_arguments_by_name(self):
        row = Row(also=True, then="d", move="home", pick="under", mode="a")
        self.assertEqual((row.mode, row.pick, row.move, row.then, row.also), ("a", "under", "home", "d", True))

    def test_parameters(self):
        self.assertEqual(str(inspect.signature(Row)), "(mode, pick, move, then, also=False)")
        self.assertEqual(Row.__module__, "lineturns.rows")

    def test_all_picks_moves_and_names(self):
        for mode, pick, move, then, also in product(NAMES, PICKS, MOVES, NAMES, (False, True)):
            row = Row(mode, pick, move, then, also)
            self.assertEqual((row.mode, row.pick, row.move, row.then, row.also), (mode, pick, move, then, also))

    def test_a_name_may_be_a_word_of_a_row(self):
        for name in ("keep", "at", "past", "all", "stay", "on", "home"):
            self.assertEqual(str(Row(name, "at", "stay", name)), f"{name} at stay {name}")

    def test_rows_are_not_iterable(self):
        row = Row("run", "past", "on", "run")
        for use in (iter, list, tuple, sorted):
            with self.assertRaises(TypeError):
                use(row)


class TextTest(unittest.TestCase):
    def test_text(self):
        self.assertEqual(str(Row("run", "past", "on", "next")), "run past on next")
        self.assertEqual(str(Row("run", "past", "on", "next", False)), "run past on next")
        self.assertEqual(str(Row("a", "under", "home", "four", True)), "a under home four also")


class EqualTest(unittest.TestCase):
    def test_equal_if_the_texts_are(self):
        rows = [Row(*words) for words in product(("a", "b"), PICKS, MOVES, ("a", "b"), (False, True))]
        again = [Row(*words) for words in product(("a", "b"), PICKS, MOVES, ("a", "b"), (False, True))]
        for (at, one), (other_at, other) in product(enumerate(rows), enumerate(again)):
            self.assertIs(one == other, at == other_at)
            self.assertIs(one != other, at != other_at)

    def test_also_false_or_left_out_is_the_same(self):
        self.assertTrue(Row("a", "at", "on", "a") == Row("a", "at", "on", "a", False))

    def test_equal_to_nothing_of_another_class(self):
        row = Row("run", "all", "on", "run")
        for value in other_values() + ["run all on run", ("run", "all", "on", "run", False), object()]:
            if not isinstance(value, Row):
                self.assertIs(row == value, False)
                self.assertIs(value == row, False)
                self.assertIs(row != value, True)


class WrongRowTest(unittest.TestCase):
    def test_mode_and_then_must_be_names(self):
        for value in NO_NAMES:
            self.assertEqual(wrong_word(*with_thing(0, value)), "mode", value)
            self.assertEqual(wrong_word(*with_thing(3, value)), "then", value)

    def test_the_edges_of_names(self):
        for name in ("a", "ab", "abc", "abcd", "zzzz", "als", "alsp"):
            self.assertIsNone(wrong_word(name, "all", "on", name))
        for name in ("abcde", "", "also"):
            self.assertEqual(wrong_word(name, "all", "on", "run"), "mode")
            self.assertEqual(wrong_word("run", "all", "on", name), "then")

    def test_a_long_string(self):
        self.assertEqual(wrong_word("a" * 1000, "all", "on", "run"), "mode")
        self.assertEqual(wrong_word("run", "all" * 300, "on", "run"), "pick")

    def test_any_value_for_each_parameter(self):
        right = (NAMES + PICKS + MOVES, PICKS, MOVES, NAMES + PICKS + MOVES, (False, True))
        for at, word in enumerate(WORDS):
            for value in any_values():
                if word in ("mode", "then"):
                    wrong = not isinstance(value, str) or value not in right[at] or len(value) > 4
                elif word == "also":
                    wrong = value is not True and value is not False
                else:
                    wrong = not isinstance(value, str) or value not in right[at]
                self.assertEqual(wrong_word(*with_thing(at, value)), word if wrong else None, (word, value))

    def test_bools_where_a_string_is_wanted(self):
        for value in (True, False):
            for at, word in enumerate(WORDS[:4]):
                self.assertEqual(wrong_word(*with_thing(at, value)), word)

    def test_also_must_be_a_bool(self):
        for value in (0, 1, None, "", "also", "True", [], (), [True]):
            self.assertEqual(wrong_word("run", "all", "on", "run", value), "also")

    def test_picks_and_moves_are_not_each_other(self):
        for move in MOVES:
            self.assertEqual(wrong_word("run", move, "on", "run"), "pick")
        for pick in PICKS:
            self.assertEqual(wrong_word("run", "all", pick, "run"), "move")

    def test_words_that_are_nearly_right(self):
        for value in ("", "Keep", "keep ", " at", "a", "pas", "alls", "unde"):
            self.assertEqual(wrong_word("run", value, "on", "run"), "pick")
        for value in ("", "On", "on ", "sta", "hom", "stays", "o"):
            self.assertEqual(wrong_word("run", "all", value, "run"), "move")

    def test_the_first_wrong_parameter_is_named(self):
        for wrong in product((False, True), repeat=5):
            values = [None if bad else right for bad, right in zip(wrong, RIGHT)]
            first = [word for bad, word in zip(wrong, WORDS) if bad][:1]
            self.assertEqual(wrong_word(*values), first[0] if first else None)

    def test_wrong_parameters_by_name(self):
        with self.assertRaises(InvalidRow) as caught:
            Row(also=None, then=3, move="on", pick="all", mode="run")
        self.assertEqual(caught.exception.word, "then")


if __name__ == "__main__":
    unittest.main()
