import unittest

from lineturns.errors import InvalidRound, InvalidRule, InvalidText
from lineturns.rounds import play
from lineturns.rows import Row
from lineturns.rules import Rule
from samples import FAIR, NAMES, NO_NAMES, other_values

PAST = Row("run", "past", "on", "run")
ALL = Row("run", "all", "home", "b", True)


class RuleTest(unittest.TestCase):
    def test_attributes(self):
        rule = Rule("run", [PAST, ALL])
        self.assertEqual((rule.first, rule.rows, rule.modes), ("run", (PAST, ALL), ("b", "run")))

    def test_rows_may_be_left_out(self):
        for rule in (Rule("run"), Rule("run", ()), Rule("run", []), Rule(rows=(), first="run")):
            self.assertEqual((rule.first, rule.rows, rule.modes), ("run", (), ("run",)))

    def test_modes_are_first_mode_and_then_each_once_ascending(self):
        rows = [Row("c", "all", "on", "a"), Row("a", "all", "on", "d"), Row("c", "at", "on", "a")]
        self.assertEqual(Rule("b", rows).modes, ("a", "b", "c", "d"))

    def test_later_changes_of_the_rows_have_no_effect(self):
        rows = [PAST]
        rule = Rule("run", rows)
        rows.append(ALL)
        self.assertEqual((rule.rows, rule.modes), ((PAST,), ("run",)))

    def test_first_must_be_a_name(self):
        for value in other_values() + list(NO_NAMES):
            for rows in ([], None):
                with self.assertRaises(InvalidRule) as caught:
                    Rule(value, rows)
                self.assertEqual(caught.exception.word, "first")
        for name in NAMES:
            self.assertEqual(Rule(name).first, name)

    def test_rows_must_be_a_sequence_of_rows(self):
        for value in other_values() + ["", "run"]:
            if isinstance(value, (list, tuple)) and all(isinstance(thing, Row) for thing in value):
                self.assertEqual(Rule("run", value).rows, tuple(value))
                continue
            with self.assertRaises(InvalidRule) as caught:
                Rule("run", value)
            self.assertEqual(caught.exception.word, "rows")

    def test_rules_are_not_iterable(self):
        with self.assertRaises(TypeError):
            iter(Rule("run", [PAST]))


class ReadTest(unittest.TestCase):
    def test_read(self):
        rule = Rule.read("first run\nrun past on run\nrun all home b also")
        self.assertEqual((rule.first, rule.rows), ("run", (PAST, ALL)))
        self.assertEqual(Rule.read("first a").rows, ())

    def test_the_first_line(self):
        for text in ("", "run", "first", "first ", "first  run", "first also", "first fiver", "First run", "first run ",
                     " first run", "first run all", "firstrun", "\nfirst run", "run all on run\nfirst run"):
            with self.assertRaises(InvalidText) as caught:
                Rule.read(text)
            self.assertEqual(caught.exception.at, 0)

    def test_the_other_lines(self):
        for line in ("", "run", "run all on", "run all on run ", " run all on run", "run  all on run",
                     "run all on run Also", "run all on run also also", "run all on run run", "run any on run",
                     "run all off run", "also all on run", "run all on also", "run all on run  also", "first run"):
            with self.assertRaises(InvalidText) as caught:
                Rule.read("first run\nrun past on run\n" + line + "\nrun wrong")
            self.assertEqual(caught.exception.at, 2, line)

    def test_a_newline_at_the_end(self):
        with self.assertRaises(InvalidText) as caught:
            Rule.read("first run\n")
        self.assertEqual(caught.exception.at, 1)


class CallTest(unittest.TestCase):
    def test_called_with_askers_and_rounds(self):
        fair = Rule.read(FAIR)
        self.assertEqual(fair(2, [[0], [0, 1]]), ((0,), (1,)))
        self.assertEqual(fair(rounds=[], askers=1), ())
        rounds = [(0, 2), [2, 0], [1, 2], []]
        self.assertEqual(fair(3, rounds), play(fair, 3, rounds).grants)

    def test_the_same_errors(self):
        fair = Rule.read(FAIR)
        for rounds, at in ((None, 0), ("", 0), ([(0,), (2,)], 1), ([(), (0, 0), None], 1)):
            with self.assertRaises(InvalidRound) as caught:
                fair(2, rounds)
            self.assertEqual(caught.exception.at, at)


if __name__ == "__main__":
    unittest.main()
