import copy
import inspect
import unittest

from lineturns.errors import InvalidRound, InvalidRule, InvalidText, NoRow
from lineturns.rounds import play
from lineturns.rows import Row
from lineturns.rules import Rule
from samples import DOUBLE, FAIR, FIXED, FULL, MOVES, NAMES, NO_NAMES, PICKS, WEIGHTED, any_values, other_values

PAST = Row("run", "past", "on", "run")
ALL = Row("run", "all", "home", "b", True)

# Integers that are no number of a row, for a rule with so many rows.
NO_NUMBERS = (-1, -2, -13, -(10 ** 30), 10 ** 30)


def told(rule):
    """All that a rule is, without its own text and its own `==`."""
    return type(rule), rule.first, tuple(str(row) for row in rule.rows), rule.modes


def wrong_line(text):
    """The line that the error keeps which this text raises, or None."""
    try:
        Rule.read(text)
    except InvalidText as error:
        return error.at
    return None


class RuleTest(unittest.TestCase):
    def test_attributes(self):
        rule = Rule("run", [PAST, ALL])
        self.assertEqual((rule.first, rule.rows, rule.modes), ("run", (PAST, ALL), ("b", "run")))

    def test_arguments_by_name(self):
        rule = Rule(rows=(PAST,), first="a")
        self.assertEqual((rule.first, rule.rows, rule.modes), ("a", (PAST,), ("a", "run")))
        self.assertEqual(str(inspect.signature(Rule)), "(first, rows=())")
        self.assertEqual(Rule.__module__, "lineturns.rules")

    def test_rows_may_be_left_out(self):
        for rule in (Rule("run"), Rule("run", ()), Rule("run", []), Rule(rows=(), first="run")):
            self.assertEqual((rule.first, rule.rows, rule.modes), ("run", (), ("run",)))

    def test_rows_are_a_tuple_of_the_rows_themselves(self):
        for rows in ([PAST, ALL, PAST], (PAST, ALL, PAST)):
            rule = Rule("run", rows)
            self.assertIs(type(rule.rows), tuple)
            self.assertEqual([id(row) for row in rule.rows], [id(PAST), id(ALL), id(PAST)])

    def test_modes_are_first_mode_and_then_each_once_ascending(self):
        rows = [Row("c", "all", "on", "a"), Row("a", "all", "on", "d"), Row("c", "at", "on", "a")]
        self.assertEqual(Rule("b", rows).modes, ("a", "b", "c", "d"))
        self.assertEqual(Rule("run", [Row("ruu", "all", "on", "r"), Row("b", "all", "on", "ru")]).modes,
                         ("b", "r", "ru", "run", "ruu"))
        self.assertIs(type(Rule("b", rows).modes), tuple)

    def test_twelve_rows(self):
        rows = [Row("abcd"[at % 4], PICKS[at % 5], MOVES[at % 3], "abcd"[at // 3], at % 2 == 1) for at in range(12)]
        rule = Rule("a", rows)
        self.assertEqual((len(rule), rule.rows, rule.modes), (12, tuple(rows), ("a", "b", "c", "d")))
        self.assertEqual([rule[at] for at in range(12)], rows)
        self.assertEqual(told(Rule.read(str(rule))), told(rule))
        self.assertEqual(len(Rule.read(FULL)), 12)

    def test_later_changes_of_the_rows_have_no_effect(self):
        rows = [PAST]
        rule = Rule("run", rows)
        rows.append(ALL)
        rows[0] = ALL
        self.assertEqual((rule.rows, rule.modes, len(rule)), ((PAST,), ("run",), 1))
        self.assertEqual(str(rule), "first run\nrun past on run")

    def test_the_rows_that_are_passed_are_not_changed(self):
        rows = [PAST, ALL]
        rule = Rule("run", rows) + Rule("a", rows)
        rule.renamed("run", "b").without(0)
        self.assertEqual(rows, [PAST, ALL])

    def test_first_must_be_a_name(self):
        for value in other_values() + list(NO_NAMES):
            for rows in ([], None):
                with self.assertRaises(InvalidRule) as caught:
                    Rule(value, rows)
                self.assertEqual(caught.exception.word, "first")
        for name in NAMES:
            self.assertEqual(Rule(name).first, name)

    def test_rows_must_be_a_sequence_of_rows(self):
        for value in other_values() + ["", "run", [PAST, None], (PAST, str(PAST)), [[PAST]], {}, {PAST.mode: PAST}]:
            if isinstance(value, (list, tuple)) and all(isinstance(thing, Row) for thing in value):
                self.assertEqual(Rule("run", value).rows, tuple(value))
                continue
            with self.assertRaises(InvalidRule) as caught:
                Rule("run", value)
            self.assertEqual(caught.exception.word, "rows")

    def test_a_rule_is_no_sequence_of_rows(self):
        with self.assertRaises(InvalidRule) as caught:
            Rule("run", Rule("run", [PAST]))
        self.assertEqual(caught.exception.word, "rows")

    def test_rules_are_not_iterable(self):
        for rule in (Rule("run"), Rule("run", [PAST]), Rule.read(FULL)):
            for use in (iter, list, tuple, sorted, set, enumerate, lambda some: [*some], lambda some: PAST in some):
                with self.assertRaises(TypeError):
                    use(rule)


class ReadTest(unittest.TestCase):
    def test_read(self):
        rule = Rule.read("first run\nrun past on run\nrun all home b also")
        self.assertEqual((rule.first, rule.rows), ("run", (PAST, ALL)))
        self.assertEqual(Rule.read("first a").rows, ())
        self.assertEqual(Rule.read(text="first a").first, "a")
        self.assertIs(type(rule), Rule)

    def test_all_rows_are_read(self):
        for pick in PICKS:
            for move in MOVES:
                for also in (False, True):
                    row = Row("one", pick, move, "two", also)
                    self.assertEqual(Rule.read("first one\n" + str(row)).rows, (row,))

    def test_the_first_line(self):
        for text in ("", "run", "first", "first ", "first  run", "first also", "first fiver", "First run", "first run ",
                     " first run", "first run all", "firstrun", "\nfirst run", "run all on run\nfirst run",
                     "first r2", "first Run", "first run also", "last run", "first run;"):
            self.assertEqual(wrong_line(text), 0, text)
            self.assertEqual(wrong_line(text + "\nrun all on"), 0, text)

    def test_the_other_lines(self):
        for line in ("", " ", "run", "run all on", "run all on run ", " run all on run", "run  all on run",
                     "run all  on run", "run all on  run", "runall on run",
                     "run all on run Also", "run all on run also also", "run all on run run", "run any on run",
                     "run all off run", "also all on run", "run all on also", "run all on run  also", "first run",
                     "run all on run also ", "run also on run", "run all also run", "all on run", "run on all run",
                     "also run all on run", "run all on fiver", "fiver all on run", "run all on run alsp"):
            self.assertEqual(wrong_line("first run\nrun past on run\n" + line + "\nrun wrong"), 2, line)
            self.assertEqual(wrong_line("first run\n" + line), 1, line)

    def test_a_line_out_in_or_twice(self):
        lines = WEIGHTED.split("\n")
        self.assertEqual(wrong_line("\n".join(lines[1:])), 0)
        for at in range(1, len(lines)):
            out = Rule.read("\n".join(lines[:at] + lines[at + 1:]))
            self.assertEqual(told(out), told(Rule.read(WEIGHTED).without(at - 1)))
            twice = Rule.read("\n".join(lines[:at + 1] + lines[at:]))
            self.assertEqual((len(twice), str(twice[at - 1]), str(twice[at])), (6, lines[at], lines[at]))
            more = Rule.read("\n".join(lines[:at] + ["two keep home one also"] + lines[at:]))
            self.assertEqual((len(more), str(more[at - 1])), (6, "two keep home one also"))
            self.assertEqual(wrong_line("\n".join(lines[:at] + ["first one"] + lines[at:])), at)
            self.assertEqual(wrong_line("\n".join(lines[:at] + [""] + lines[at:])), at)
        self.assertEqual(wrong_line("first one\n" + WEIGHTED), 1)

    def test_a_blank_more_or_less(self):
        text = "first one\none keep stay two also\ntwo all on one"
        for at, sign in enumerate(text):
            line = text[:at].count("\n")
            self.assertEqual(wrong_line(text[:at] + " " + text[at:]), line, at)
            if sign == " ":
                self.assertEqual(wrong_line(text[:at] + text[at + 1:]), line, at)
        self.assertEqual(wrong_line(text + " "), 2)

    def test_a_newline_at_the_end(self):
        self.assertEqual(wrong_line("first run\n"), 1)
        self.assertEqual(wrong_line("first run\nrun all on run\n"), 2)
        self.assertEqual(wrong_line("first run\n\nrun all on run"), 1)

    def test_other_signs_between_the_words(self):
        for sign in ("\t", "\r", "  ", "-", ","):
            self.assertEqual(wrong_line("first" + sign + "run"), 0)
            self.assertEqual(wrong_line("first run\nrun all on" + sign + "run"), 1)

    def test_a_text_of_a_thousand_characters(self):
        text = "first abcd" + "\naa past stay abcd also" * 43
        self.assertEqual(len(text), 999)
        self.assertEqual((len(Rule.read(text)), str(Rule.read(text))), (43, text))
        self.assertEqual(wrong_line("x" * 1000), 0)
        self.assertEqual(wrong_line("first a\n" + "x " * 490), 1)
        self.assertEqual(wrong_line("\n" * 1000), 0)


class TextTest(unittest.TestCase):
    def test_text(self):
        self.assertEqual(str(Rule("run")), "first run")
        self.assertEqual(str(Rule("run", [PAST, ALL])), "first run\nrun past on run\nrun all home b also")
        self.assertEqual(str(Rule("b", [ALL, PAST])), "first b\nrun all home b also\nrun past on run")

    def test_read_and_text_go_together(self):
        for text in (FAIR, FIXED, DOUBLE, WEIGHTED, FULL, "first a"):
            self.assertEqual(str(Rule.read(text)), text)


class EqualTest(unittest.TestCase):
    def test_equal_if_the_texts_are(self):
        texts = ["first run", "first b", FAIR, FIXED, DOUBLE, WEIGHTED, FULL, FAIR + "\nrun all on run",
                 "first run\nrun all on run\nrun past on run", "first run\nrun past on run\nrun all on run also"]
        for at, text in enumerate(texts):
            for other_at, other in enumerate(texts):
                self.assertIs(Rule.read(text) == Rule.read(other), at == other_at)
                self.assertIs(Rule.read(text) != Rule.read(other), at != other_at)

    def test_however_it_is_made(self):
        rows = [Row("run", "past", "on", "run"), Row("run", "all", "on", "run", False)]
        for rule in (Rule("run", rows), Rule(rows=tuple(rows), first="run"),
                     Rule("run", rows[:1]) + Rule("b", rows[1:])):
            self.assertTrue(rule == Rule.read(FAIR))

    def test_equal_to_nothing_of_another_class(self):
        rule = Rule("run", [PAST])
        for value in any_values() + [str(rule), ("run", (PAST,)), [PAST], (PAST,), PAST, object()]:
            if not isinstance(value, Rule):
                self.assertIs(rule == value, False)
                self.assertIs(value == rule, False)
                self.assertIs(rule != value, True)


class IndexTest(unittest.TestCase):
    def test_length(self):
        for rows in ([], [PAST], [PAST, ALL], [PAST] * 12):
            self.assertEqual(len(Rule("run", rows)), len(rows))

    def test_index(self):
        rule = Rule("run", [PAST, ALL, PAST])
        self.assertIs(rule[0], PAST)
        self.assertIs(rule[1], ALL)
        self.assertIs(rule[2], PAST)

    def test_no_row(self):
        for rows in ([], [PAST], [PAST, ALL], [PAST] * 12):
            rule = Rule("run", rows)
            for at in NO_NUMBERS + (len(rule), len(rule) + 1, -len(rule) - 1):
                with self.assertRaises(NoRow) as caught:
                    rule[at]
                self.assertEqual(caught.exception.at, at)

    def test_the_error_is_an_index_error(self):
        with self.assertRaises(IndexError):
            Rule("run")[0]

    def test_below_nought_is_no_number_of_a_row(self):
        for at in (-1, -2):
            with self.assertRaises(NoRow) as caught:
                Rule("run", [PAST, ALL])[at]
            self.assertEqual(caught.exception.at, at)


class WithoutTest(unittest.TestCase):
    def test_without_each_row(self):
        rule = Rule.read(WEIGHTED)
        lines = WEIGHTED.split("\n")
        for at in range(5):
            wanted = "\n".join(lines[:at + 1] + lines[at + 2:])
            self.assertEqual(told(rule.without(at)), told(Rule.read(wanted)))
            self.assertEqual(told(rule.without(at=at)), told(Rule.read(wanted)))
        self.assertEqual(str(rule), WEIGHTED)

    def test_the_modes_are_those_that_are_left(self):
        rule = Rule("run", [PAST, ALL])
        self.assertEqual((rule.without(1).modes, rule.without(0).modes), (("run",), ("b", "run")))
        self.assertEqual(told(Rule("a", [PAST]).without(0)), told(Rule("a")))

    def test_of_equal_rows_one_is_left_out(self):
        self.assertEqual(told(Rule("run", [PAST, ALL, PAST]).without(2)), told(Rule("run", [PAST, ALL])))
        self.assertEqual(told(Rule("run", [PAST, ALL, PAST]).without(0)), told(Rule("run", [ALL, PAST])))

    def test_no_row(self):
        for rows in ([], [PAST], [PAST, ALL], [PAST] * 12):
            rule = Rule("run", rows)
            for at in NO_NUMBERS + (len(rule), len(rule) + 1, -len(rule) - 1):
                with self.assertRaises(NoRow) as caught:
                    rule.without(at)
                self.assertEqual(caught.exception.at, at)


class SumTest(unittest.TestCase):
    def test_sum(self):
        one, other = Rule("a", [PAST]), Rule("c", [ALL, PAST])
        self.assertEqual(told(one + other), told(Rule("a", [PAST, ALL, PAST])))
        self.assertEqual(told(other + one), told(Rule("c", [ALL, PAST, PAST])))
        self.assertEqual(told(one + Rule("d")), told(one))
        self.assertEqual(told(Rule("d") + one), told(Rule("d", [PAST])))
        self.assertEqual(told(one + one), told(Rule("a", [PAST, PAST])))
        self.assertEqual((one + other).modes, ("a", "b", "run"))

    def test_what_is_added_does_not_change(self):
        one, other = Rule("a", [PAST]), Rule("c", [ALL])
        one + other
        self.assertEqual((told(one), told(other)), (told(Rule("a", [PAST])), told(Rule("c", [ALL]))))

    def test_in_place_returns_a_new_rule(self):
        rule = kept = Rule("a", [PAST])
        rule += Rule("c", [ALL])
        self.assertIsNot(rule, kept)
        self.assertEqual(told(kept), told(Rule("a", [PAST])))
        self.assertEqual(told(rule), told(Rule("a", [PAST, ALL])))

    def test_anything_else(self):
        rule = Rule("a", [PAST])
        for value in any_values() + [PAST, [PAST], (PAST,), str(rule), {}, object()]:
            if not isinstance(value, Rule):
                with self.assertRaises(TypeError):
                    rule + value
                with self.assertRaises(TypeError):
                    value + rule
                with self.assertRaises(TypeError):
                    rule += value
        self.assertEqual(told(rule), told(Rule("a", [PAST])))

    def test_great_sums(self):
        rule = Rule.read(FULL)
        for _ in range(4):
            rule = rule + rule
        self.assertEqual((len(rule), rule[191], rule.modes), (192, rule[11], ("a", "b", "c", "d")))


class RenamedTest(unittest.TestCase):
    def test_wherever_it_stands(self):
        rule = Rule.read("first a\na all on b\nb past home a also\nb at stay b\nc keep on c")
        wanted = {
            "a": "first d\nd all on b\nb past home d also\nb at stay b\nc keep on c",
            "b": "first a\na all on d\nd past home a also\nd at stay d\nc keep on c",
            "c": "first a\na all on b\nb past home a also\nb at stay b\nd keep on d",
        }
        for mode, text in wanted.items():
            self.assertEqual(told(rule.renamed(mode, "d")), told(Rule.read(text)))
            self.assertEqual(told(rule.renamed(other="d", mode=mode)), told(Rule.read(text)))
        self.assertEqual(rule.renamed("a", "d").modes, ("b", "c", "d"))
        self.assertEqual(str(rule), "first a\na all on b\nb past home a also\nb at stay b\nc keep on c")

    def test_a_mode_that_stands_nowhere(self):
        for text in (FAIR, FULL, "first run"):
            self.assertEqual(told(Rule.read(text).renamed("none", "e")), told(Rule.read(text)))
            self.assertEqual(told(Rule.read(text).renamed("none", "run")), told(Rule.read(text)))

    def test_to_a_mode_that_stands_already(self):
        rule = Rule.read("first a\na all on b\nb past home a also\nb at stay b")
        self.assertEqual(str(rule.renamed("a", "b")), "first b\nb all on b\nb past home b also\nb at stay b")
        self.assertEqual(str(rule.renamed("b", "a")), "first a\na all on a\na past home a also\na at stay a")
        self.assertEqual(rule.renamed("a", "b").modes, ("b",))

    def test_to_itself(self):
        for mode in ("a", "d", "e"):
            self.assertEqual(told(Rule.read(FULL).renamed(mode, mode)), told(Rule.read(FULL)))

    def test_picks_and_moves_are_no_modes(self):
        rule = Rule.read("first all\nall all on on\non at on all")
        self.assertEqual(str(rule.renamed("all", "x").renamed("on", "y")), "first x\nx all on y\ny at on x")

    def test_a_first_mode_without_rows(self):
        self.assertEqual(told(Rule("a").renamed("a", "b")), told(Rule("b")))
        self.assertEqual(told(Rule("a").renamed("b", "a")), told(Rule("a")))


class CallTest(unittest.TestCase):
    def test_called_with_askers_and_rounds(self):
        fair = Rule.read(FAIR)
        self.assertEqual(fair(2, [[0], [0, 1]]), ((0,), (1,)))
        self.assertEqual(fair(rounds=[], askers=1), ())
        rounds = [(0, 2), [2, 0], [1, 2], []]
        self.assertEqual(fair(3, rounds), play(fair, 3, rounds).grants)
        self.assertEqual(Rule("run")(3, rounds), ((), (), (), ()))

    def test_the_same_errors(self):
        fair = Rule.read(FAIR)
        for rounds, at in ((None, 0), ("", 0), ([(0,), (2,)], 1), ([(), (0, 0), None], 1), ([[True]], 0), (fair, 0)):
            with self.assertRaises(InvalidRound) as caught:
                fair(2, rounds)
            self.assertEqual(caught.exception.at, at)

    def test_rules_that_were_made_of_others(self):
        weighted = Rule.read(WEIGHTED)
        self.assertEqual(weighted.without(0)(2, [[0], [0, 1], [0, 1]]), ((0,), (1,), (0,)))
        self.assertEqual(weighted(2, [[0], [0, 1], [0, 1]]), ((0,), (0,), (1,)))
        self.assertEqual((Rule("run") + Rule.read(FIXED))(2, [[0, 1], [1]]), ((0,), (1,)))
        self.assertEqual(weighted.renamed("two", "one")(2, [[0], [0, 1], [0, 1]]), ((0,), (0,), (0,)))


class UnchangedTest(unittest.TestCase):
    def test_rules_do_not_change(self):
        rule = Rule.read(FULL)
        before = copy.deepcopy((rule.first, str(rule), rule.modes))
        rule.without(3), rule.renamed("a", "b"), rule + rule, rule[2], len(rule), rule == rule, rule(3, [[0, 2]])
        with self.assertRaises(NoRow):
            rule.without(12)
        with self.assertRaises(InvalidRound):
            rule(1, [[1]])
        self.assertEqual((rule.first, str(rule), rule.modes), before)
        self.assertEqual(rule.without(3), rule.without(3))


if __name__ == "__main__":
    unittest.main()
