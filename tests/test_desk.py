import inspect
import unittest

from lineturns.deciding import faults
from lineturns.desk import Desk
from lineturns.errors import InvalidCommand, InvalidRound, InvalidText, LineError
from lineturns.line import Line
from lineturns.rounds import play
from lineturns.rules import Rule
from lineturns.waiting import growth, waits
from samples import BLIND, DOUBLE, FAIR, FAULTY, FIXED, FULL, GROWTHS, WEIGHTED, any_values

FORMS = ("rule first run", "line 3", "ask", "ask 0", "faults", "waits 2", "grows", "undo")


def command_of(text):
    """The command that gives the line a rule."""
    return "rule " + text.replace("\n", " ; ")


def desk_with(text, askers):
    desk = Desk()
    desk.say(f"line {askers}")
    desk.say(command_of(text))
    return desk


def state_of(desk):
    line = desk.line
    return str(line.rule), line.askers, line.mode, line.pointer, line.rounds, len(line)


def said(desk, *commands):
    return [desk.say(command) for command in commands]


class DeskCase(unittest.TestCase):
    def wrong(self, *commands):
        """Check that commands are wrong, and change nothing."""
        for command in commands:
            desk = desk_with(FAIR, 3)
            desk.say("ask 1")
            line, before = desk.line, state_of(desk)
            with self.assertRaises(InvalidCommand, msg=repr(command)) as caught:
                desk.say(command)
            self.assertIs(type(caught.exception), InvalidCommand)
            self.assertIs(desk.line, line)
            self.assertEqual(state_of(desk), before)


class ExamplesTest(unittest.TestCase):
    def test_the_document(self):
        desk = Desk()
        told = said(desk, "line 3", "rule first run ; run past on run ; run all on run", "ask 0 2", "ask 2 0", "ask")
        self.assertEqual(told, ["3", "2", "0", "2", "nobody"])
        self.assertEqual(said(desk, "waits 5", "grows", "faults", "undo"), ["4", "1 in 1", "never", "undone"])


class NewDeskTest(unittest.TestCase):
    def test_its_line(self):
        desk = Desk()
        self.assertIs(type(desk.line), Line)
        self.assertEqual((desk.line.rule, state_of(desk)), (Rule("run"), ("first run", 1, "run", None, (), 0)))

    def test_what_it_says(self):
        self.assertEqual(said(Desk(), "ask", "ask 0", "faults", "waits 1", "grows", "undo", "undo", "undo"),
                         ["nobody", "nobody", "endless none", "endless", "endless", "undone", "undone", "nothing"])


class RuleTest(DeskCase):
    def test_the_number_of_rows(self):
        desk = Desk()
        for text, _ in GROWTHS + FAULTY:
            rule = Rule.read(text)
            self.assertEqual(desk.say(command_of(text)), str(len(rule)))
            self.assertEqual((desk.line.rule, desk.line.mode, desk.line.pointer), (rule, rule.first, None))
        self.assertEqual(desk.say("rule first a"), "0")

    def test_it_is_changed_in_the_line(self):
        desk = desk_with(FAIR, 3)
        line = desk.line
        desk.say("ask 1")
        self.assertEqual(desk.say("rule first a ; a keep on a ; a all on a also"), "2")
        self.assertIs(desk.line, line)
        self.assertEqual(state_of(desk), ("first a\na keep on a\na all on a also", 3, "a", None, ((1,),), 3))

    def test_to_an_equal_rule(self):
        desk = desk_with(FAIR, 3)
        desk.say("ask 1")
        self.assertEqual(said(desk, command_of(FAIR), "ask 0 2", "undo", "undo", "ask 0 2"),
                         ["2", "0", "undone", "undone", "2"])

    def test_texts_that_are_wrong(self):
        for text, at in (("x", 0), ("first", 0), ("first also", 0), ("First run", 0), ("first run run", 0), (";", 0),
                         ("first run ;", 0), ("first run; run all on run", 0), ("first run ;run all on run", 0),
                         ("; first run", 0), ("first run ; run all on", 1), ("first run ; first run", 1),
                         ("first run ; run all on run ; run all", 2), ("first run ; run all on run ;", 1),
                         ("first run ; ; run all on run", 1), ("first run ; ;", 1), ("first\trun", 0),
                         ("first run ; run all on run also also", 1), ("first run ; run past off run", 1),
                         ("first run ; run all on run ; run keep on Run ; x", 2), ("rule first run", 0), ("0", 0)):
            desk = desk_with(FAIR, 3)
            desk.say("ask 1")
            before = state_of(desk)
            with self.assertRaises(InvalidText, msg=text) as caught:
                desk.say("rule " + text)
            self.assertEqual((caught.exception.at, state_of(desk)), (at, before), text)

    def test_no_text(self):
        self.wrong("rule", "rule ", " rule", "rules first run", "rule  first run", "rule first run ", "rule first  run",
                   "rule first run ;  run all on run", "Rule first run")

    def test_a_newline(self):
        self.wrong("rule first run\nrun all on run", "rule first run ; run all on run\n", "rule\nfirst run", "\n",
                   "rule x\n", "rule first run ;\nrun all on run")


class LineTest(DeskCase):
    def test_a_new_line(self):
        desk = desk_with(WEIGHTED, 3)
        desk.say("ask 1")
        desk.say("ask 1")
        rule, old = desk.line.rule, desk.line
        self.assertEqual(desk.say("line 5"), "5")
        self.assertIsNot(desk.line, old)
        self.assertIs(desk.line.rule, rule)
        self.assertEqual(state_of(desk), (WEIGHTED, 5, "one", None, (), 0))
        self.assertEqual((old.askers, len(old), len(old.rounds)), (3, 3, 2))

    def test_nothing_can_be_taken_back(self):
        desk = desk_with(FAIR, 3)
        self.assertEqual(said(desk, "ask 1", "line 3", "undo", "ask 2", "undo", "undo"),
                         ["1", "3", "nothing", "2", "undone", "nothing"])
        self.assertEqual(state_of(desk), (FAIR, 3, "run", None, (), 0))

    def test_the_numbers(self):
        desk = desk_with(FAIR, 1)
        for askers in range(1, 41):
            self.assertEqual(desk.say(f"line {askers}"), str(askers))
            self.assertEqual((desk.line.askers, desk.say(f"ask {askers - 1}")), (askers, str(askers - 1)))

    def test_wrong_numbers(self):
        self.wrong("line 0", "line 41", "line 100", "line 400", "line -1", "line +1", "line 01", "line 007", "line 00",
                   "line 1.0", "line 1_0", "line x", "line \u0663", "line \xb2", "line 3 ", "line  3", "line", "line ",
                   "line 3 4", "line 3\n", "line\n3", "line \t3", "line " + "9" * 900, "line 0x3", "line three",
                   "lines 3", "LINE 3", "line 3 ;")


class AskTest(DeskCase):
    def test_as_played(self):
        rounds = [(), (0,), (2, 0), (3, 1, 2), (3,), (0, 1, 2, 3), (1, 0), (), (2, 3)]
        for text, _ in GROWTHS + FAULTY:
            desk = desk_with(text, 4)
            played = play(Rule.read(text), 4, rounds)
            for at, asking in enumerate(rounds):
                told = desk.say(" ".join(["ask"] + [str(asker) for asker in asking]))
                self.assertEqual(told, " ".join(str(asker) for asker in played.grants[at]) or "nobody")
                self.assertEqual((desk.line.mode, desk.line.pointer), (played.modes[at + 1], played.pointers[at + 1]))

    def test_several_that_are_granted(self):
        desk = desk_with("first a\na all on b\nb keep on b\nb past on b also\nb under on b also", 40)
        self.assertEqual(said(desk, "ask 10", "ask 39 10 9", "ask 11 9 10 8", "ask 39"),
                         ["10", "9 10 39", "8 10 11", "39"])

    def test_ask_alone(self):
        desk = desk_with(FAIR, 3)
        self.assertEqual(said(desk, "ask", "ask 1", "ask", "ask 1 2"), ["nobody", "1", "nobody", "2"])
        self.assertEqual((desk.line.rounds, desk.line.pointer), (((), (1,), (), (1, 2)), 2))

    def test_nobody_is_granted(self):
        self.assertEqual(said(desk_with(BLIND, 2), "ask 1", "ask 0", "ask 0 1"), ["1", "nobody", "nobody"])

    def test_one_to_many_askers(self):
        desk = desk_with(FAIR, 40)
        everybody = " ".join(["ask"] + [str(asker) for asker in range(39, -1, -1)])
        self.assertEqual(said(desk, *[everybody] * 40), [str(asker) for asker in range(40)])

    def test_the_errors_of_the_line(self):
        for command in ("ask 3", "ask 0 1 2 3", "ask 0 0", "ask 1 2 1", "ask 10", "ask 40", "ask " + "9" * 900,
                        "ask 0 " + "1" * 6000):
            for rounds in (0, 1, 4):
                desk = desk_with(FAIR, 3)
                for _ in range(rounds):
                    desk.say("ask 1 2")
                before = state_of(desk)
                with self.assertRaises(InvalidRound, msg=command) as caught:
                    desk.say(command)
                self.assertEqual((caught.exception.at, state_of(desk)), (rounds, before))

    def test_wrong_askers(self):
        self.wrong("ask x", "ask 0 x", "ask 00", "ask 01", "ask 0 02", "ask -1", "ask +1", "ask 1,2", "ask 1.0",
                   "ask 1_0", "ask \u0661", "ask \xb9", "ask ", "ask 0 ", "ask  0", "ask 0  1", " ask 0", "ask 0\n",
                   "ask\n", "ask\n0", "ask 0\t1", "ask (0)", "ask 0 nobody", "asks 0", "ask0", "Ask", "ask 9 x", "ask 0 0 x",
                   "ask None", "ask True")


class TellingTest(DeskCase):
    def test_what_is_decided(self):
        for text, _ in GROWTHS + FAULTY:
            rule, desk = Rule.read(text), desk_with(text, 2)
            self.assertEqual(desk.say("faults"), " ".join(faults(rule)) or "never")
            pair = growth(rule)
            self.assertEqual(desk.say("grows"), "endless" if pair is None else f"{pair[0]} in {pair[1]}")
            for askers in (1, 2, 5):
                most = waits(rule, askers)
                self.assertEqual(desk.say(f"waits {askers}"), "endless" if most is None else str(most))

    def test_faults(self):
        for text, told in ((FAIR, "never"), (FIXED, "endless"), (BLIND, "endless none"), (DOUBLE, "endless two"),
                           (FULL, "two"), ("first run", "endless none"), (FAULTY[-1][0], "endless none two")):
            self.assertEqual(desk_with(text, 1).say("faults"), told)

    def test_waits(self):
        desk = desk_with(WEIGHTED, 1)
        self.assertEqual([desk.say(f"waits {askers}") for askers in range(1, 17)],
                         [str(2 * (askers - 1)) for askers in range(1, 17)])
        self.assertEqual(said(desk_with(FIXED, 9), "waits 1", "waits 2", "waits 16"), ["0", "endless", "endless"])

    def test_grows(self):
        for text, told in ((FAIR, "1 in 1"), (WEIGHTED, "2 in 1"), (FIXED, "endless"), (GROWTHS[7][0], "3 in 2"),
                           (GROWTHS[8][0], "4 in 3")):
            self.assertEqual(desk_with(text, 1).say("grows"), told)

    def test_they_change_nothing(self):
        desk = desk_with(WEIGHTED, 3)
        desk.say("ask 1 2")
        line, before = desk.line, state_of(desk)
        said(desk, "faults", "waits 3", "grows", "waits 16")
        self.assertIs(desk.line, line)
        self.assertEqual(state_of(desk), before)

    def test_wrong_numbers(self):
        self.wrong("waits 0", "waits 17", "waits 40", "waits 160", "waits 01", "waits 016", "waits -1", "waits +2",
                   "waits 2.0", "waits x", "waits \u0663", "waits \xb2", "waits", "waits ", "waits  2", "waits 2 ",
                   "waits 2 3", "waits 2\n", "waits\n2", "waits " + "1" * 900, "waits " + "1" * 6000, "wait 2")

    def test_words_too_many(self):
        self.wrong("faults 1", "faults never", "faults ", " faults", "faults\n", "\nfaults", "grows 2", "grows in",
                   "grows ", "grows\n", "undo 1", "undo undo", "undo ", "undo\n", "fault", "grow", "growth", "undone")


class UndoTest(DeskCase):
    def test_each_thing(self):
        desk = desk_with(FAIR, 3)
        said(desk, "ask 1", "ask", command_of(WEIGHTED), "ask 2 0", "ask 0")
        told = []
        while desk.say("undo") == "undone":
            told.append(state_of(desk))
        self.assertEqual(told, [
            (WEIGHTED, 3, "one", 0, ((1,), (), (0, 2)), 5),
            (WEIGHTED, 3, "one", None, ((1,), ()), 4),
            (FAIR, 3, "run", 1, ((1,), ()), 3),
            (FAIR, 3, "run", 1, ((1,),), 2),
            (FAIR, 3, "run", None, (), 1),
            ("first run", 3, "run", None, (), 0),
        ])
        self.assertEqual(said(desk, "undo", "undo"), ["nothing", "nothing"])

    def test_behind_a_changed_rule(self):
        desk = desk_with(FAIR, 3)
        self.assertEqual(said(desk, "ask 1", command_of(FIXED), "ask 1 2", "undo", "undo", "ask 1 2"),
                         ["1", "1", "1", "undone", "undone", "2"])
        self.assertEqual(str(desk.line.rule), FAIR)

    def test_a_new_line_keeps_the_rule_that_was_taken_back_to(self):
        desk = desk_with(FAIR, 3)
        said(desk, command_of(FIXED), "undo", "line 4")
        self.assertEqual(state_of(desk), (FAIR, 4, "run", None, (), 0))


class DeskLineTest(DeskCase):
    def test_what_is_done_with_the_line_itself(self):
        desk = desk_with(FAIR, 4)
        desk.line.several([[1], [2, 3]])
        self.assertEqual(said(desk, "ask 0 3", "undo", "undo", "ask 0 3"), ["3", "undone", "undone", "0"])
        with desk.line.trial():
            self.assertEqual(said(desk, "ask 1", command_of(FIXED), "faults"), ["1", "1", "endless"])
        self.assertEqual(said(desk, "faults", "ask 1"), ["never", "1"])

    def test_two_desks_side_by_side(self):
        one, other = Desk(), Desk()
        self.assertIsNot(one.line, other.line)
        said(one, "line 3", command_of(FAIR), "ask 2")
        self.assertEqual(state_of(other), ("first run", 1, "run", None, (), 0))
        said(other, "line 2", command_of(FIXED))
        self.assertEqual((said(one, "ask 0 2", "faults"), said(other, "ask 0 1", "faults")),
                         (["0", "never"], ["0", "endless"]))
        self.assertEqual((said(other, "undo", "undo", "undo"), said(one, "undo", "undo", "undo", "undo")),
                         (["undone", "undone", "nothing"], ["undone", "undone", "undone", "nothing"]))


class WrongCommandTest(DeskCase):
    def test_any_value(self):
        values = [value for value in any_values() if value not in FORMS]
        more = [["ask"], ("ask", "0"), b"ask", b"undo", {"ask": 1}, object(), ["undo"], 3]
        for value in values + more:
            desk = desk_with(FAIR, 2)
            before = state_of(desk)
            with self.assertRaises(InvalidCommand):
                desk.say(value)
            self.assertEqual(state_of(desk), before)

    def test_other_words(self):
        self.wrong("", " ", "  ", "\n", ";", "help", "first run", "0", "say ask", "play", "several 0", "change first run",
                   "nothing", "ring", "ASK 0", "ask;undo", "undo ; undo", "line 3 ; undo", "ASK", "None")

    def test_forms_with_spaces_and_newlines(self):
        for form in FORMS:
            self.assertIs(type(desk_with(FAIR, 3).say(form)), str)
            self.wrong(form + " ", " " + form, form + "\n", "\n" + form, form + " \n", form.replace(" ", "  ") + " ",
                       form + "\n\n" + form, form + " \nundo", form.upper())

    def test_wrong_ahead_of_the_other_errors(self):
        self.wrong("rule x  y", "rule x\n", "ask 9 9 ", "ask 9\n", "ask 9 x", "rule ; ", "ask 0 0 01")

    def test_they_are_line_errors(self):
        for command in (None, "", "rule x", "ask 9"):
            with self.assertRaises(LineError):
                Desk().say(command)


class ConventionsTest(unittest.TestCase):
    def test_names(self):
        self.assertEqual((str(inspect.signature(Desk)), Desk.__module__), ("()", "lineturns.desk"))
        self.assertEqual(str(inspect.signature(Desk.say)), "(self, command)")

    def test_arguments_by_name(self):
        self.assertEqual(Desk().say(command="line 7"), "7")

    def test_a_desk_is_not_iterable(self):
        for use in (iter, list, tuple):
            with self.assertRaises(TypeError):
                use(Desk())

    def test_the_same_call_returns_an_equal_result(self):
        desk = desk_with(FULL, 3)
        commands = ["faults", "waits 4", "grows", "waits 2"]
        first = said(desk, *commands)
        said(Desk(), "line 9", command_of(FIXED), "faults", "waits 2", "grows")
        self.assertEqual(said(desk, *commands[::-1])[::-1], first)


if __name__ == "__main__":
    unittest.main()
