import inspect
import unittest
from itertools import product

from lineturns import deciding
from lineturns.deciding import faults, happens, history, least, ring, ring_holds
from lineturns.errors import InvalidFault, LineError
from lineturns.papers import paper
from lineturns.rounds import play
from lineturns.rows import Row
from lineturns.rules import Rule
from samples import (
    BLIND, DOUBLE, FAIR, FAULTY, FIXED, FULL, GROWTHS, LATE, LOCK, STAIRS, TWIN, WEIGHTED, any_values, slow_play,
)
from slow import SlowLine, random_rules, slow_endless, slow_happens

FAULTS = ("endless", "none", "two")


def rules_of_the_tables():
    return [Rule.read(text) for text, _ in GROWTHS + FAULTY]


def has_form(value):
    """Whether a value of four things has the form of a ring."""
    askers, asker, ahead, turn = value
    if type(askers) is not int or type(asker) is not int or type(ahead) is not tuple or type(turn) is not tuple:
        return False
    for asking in ((asker,),) + ahead + turn:
        if type(asking) is not tuple or any(type(some) is not int for some in asking):
            return False
        if list(asking) != sorted(set(asking)) or any(some < 0 or some >= askers for some in asking):
            return False
    return True


def is_ring(rule, value):
    """Whether a value of the right form is a ring, by the second way to play."""
    askers, asker, ahead, turn = value
    # Those past all that ask make no difference.
    askers = min(askers, 50)
    grants, _, modes, pointers, _ = slow_play(rule, askers, ahead + turn)
    at = len(ahead)
    if not turn or (modes[at], pointers[at]) != (modes[-1], pointers[-1]):
        return False
    return all(asker in asking and asker not in granted for asking, granted in zip(turn, grants[at:]))


def are_rounds(value, askers):
    """Whether a value is a tuple of ascending tuples of so many askers."""
    if type(value) is not tuple or any(type(asking) is not tuple for asking in value):
        return False
    return all(asking == tuple(sorted(set(asking) & set(range(askers)))) for asking in value)


class ExamplesTest(unittest.TestCase):
    def test_the_overview(self):
        fair, fixed = Rule.read(FAIR), Rule.read(FIXED)
        self.assertIs(happens(fair, "endless"), False)
        self.assertIs(happens(fixed, "endless"), True)
        self.assertEqual(least(fixed, "endless"), 2)

    def test_faults_and_histories(self):
        blind, double = Rule.read(BLIND), Rule.read(DOUBLE)
        self.assertEqual(faults(blind), ("endless", "none"))
        self.assertEqual(history(blind, "none"), (1, ((0,), (0,))))
        self.assertEqual((faults(double), least(double, "two")), (("endless", "two"), 2))

    def test_rings(self):
        fixed = Rule.read(FIXED)
        self.assertIs(ring_holds(fixed, (2, 1, (), ((0, 1),))), True)
        self.assertIs(ring_holds(fixed, (2, 1, (), ((1,),))), False)


class FaultsTest(unittest.TestCase):
    def same(self, rule, numbers):
        self.assertEqual(tuple(least(rule, fault) for fault in FAULTS), numbers, str(rule))
        for fault, number in zip(FAULTS, numbers):
            self.assertIs(happens(rule, fault), number is not None)
        self.assertEqual(faults(rule), tuple(fault for fault, number in zip(FAULTS, numbers) if number is not None))
        for fault, number in zip(("none", "two"), numbers[1:]):
            told = history(rule, fault)
            self.assertEqual(told and told[0], number)
        self.assertEqual((ring(rule) or (None,))[0], numbers[0])

    def test_faulty_rules(self):
        for text, numbers in FAULTY:
            self.same(Rule.read(text), numbers)

    def test_a_rule_without_rows(self):
        rule = Rule("run")
        self.assertEqual((faults(rule), history(rule, "none")), (("endless", "none"), (1, ((0,),))))
        self.assertEqual((ring(rule)[:2], history(rule, "two")), ((1, 0), None))

    def test_rules_without_faults(self):
        for text in (FAIR, TWIN, WEIGHTED):
            rule = Rule.read(text)
            self.same(rule, (None, None, None))
            self.assertEqual((faults(rule), history(rule, "two"), history(rule, "none"), ring(rule)),
                             ((), None, None, None))

    def test_rules_with_two_alone(self):
        self.assertEqual(faults(Rule.read(FULL)), ("two",))
        self.assertEqual(faults(Rule.read(FAIR + "\nrun under stay run also")), ("two",))

    def test_rows_of_modes_that_never_come_about(self):
        rule = Rule.read(FAIR + "\nb keep on run\nc all stay c\nc keep stay c also")
        self.assertEqual(faults(rule), ())
        self.assertEqual(faults(rule + Rule.read("first x\nrun keep on c also")), ("two",))
        self.assertEqual(faults(rule.renamed("run", "c")), ("two",))

    def test_a_fault_behind_many_rounds(self):
        modes = "abcdefgh"
        rows = [Row("a", "all", "on", "b")]
        for mode, then in zip(modes[1:], modes[2:]):
            rows += [Row(mode, "past", "on", then), Row(mode, "all", "stay", mode)]
        rows += [Row("h", "past", "on", "a"), Row("h", "under", "stay", "a", True), Row("h", "all", "on", "a")]
        rule = Rule("a", rows)
        number, rounds = history(rule, "two")
        self.assertEqual((number, len(rounds), least(rule, "two")), (8, 8, 8))
        self.assertEqual(play(rule, number, rounds).faults, ("two",))

    def test_the_ascending_tuple(self):
        rule = Rule.read("first a\na all on b\nb keep stay a\nb past on b also\nb under stay c\nc keep on a also")
        self.assertEqual(faults(rule), ("endless", "none", "two"))


class WrongFaultTest(unittest.TestCase):
    def test_any_value(self):
        more = ["Endless", "none ", "", "twos", "one", ["two"], ("none",), {"two"}, object()]
        for text in (FAIR, FIXED, "first run"):
            rule = Rule.read(text)
            for value in any_values() + more:
                for function in (happens, least, history):
                    with self.assertRaises(InvalidFault):
                        function(rule, value)

    def test_endless_has_no_history(self):
        for text in (FAIR, FIXED, BLIND):
            with self.assertRaises(InvalidFault):
                history(Rule.read(text), "endless")
        with self.assertRaises(LineError):
            history(rule=Rule.read(FAIR), fault="endless")


class HistoryTest(unittest.TestCase):
    def shown(self, rule, fault):
        told = history(rule, fault)
        if told is None:
            self.assertIs(happens(rule, fault), False)
            return
        number, rounds = told
        self.assertEqual((type(told), type(number), number), (tuple, int, least(rule, fault)))
        self.assertTrue(are_rounds(rounds, number))
        self.assertIn(fault, slow_play(rule, number, rounds)[4])
        self.assertNotIn(fault, slow_play(rule, number, rounds[:-1])[4])
        self.assertIn(fault, play(rule, number, rounds).faults)

    def test_the_last_round_alone_has_the_fault(self):
        for rule in rules_of_the_tables() + random_rules(80, 1):
            for fault in ("none", "two"):
                self.shown(rule, fault)

    def test_the_fewest_rounds(self):
        for text, rounds in ((BLIND, 2), ("first run", 1), ("first a\na all on b", 2),
                             ("first a\na all home b\nb all stay c\nc past on d", 4)):
            self.assertEqual(len(history(Rule.read(text), "none")[1]), rounds)
        for text, number, rounds in ((DOUBLE, 2, 2), (LATE, 4, 4)):
            told = history(Rule.read(text), "two")
            self.assertEqual((told[0], len(told[1])), (number, rounds))

    def test_fewer_rounds_of_more_askers_are_not_taken(self):
        # Three askers need two rounds only: the middle one, then both others.
        rule = Rule.read("first a\na all on b\nb past stay a\nb under home c also\nb keep on c\nb under home c\n"
                         "c all on d\nd keep on a\nd past on a also\nd under on a")
        number, rounds = history(rule, "two")
        self.assertEqual((number, least(rule, "two")), (2, 2))
        self.assertEqual(len(rounds), SlowLine(rule, 2).fewest("two"))
        self.assertGreater(len(rounds), SlowLine(rule, 3).fewest("two"))


class SlowWayTest(unittest.TestCase):
    """Compares with all states and all rounds of lines of one to four askers."""

    def same(self, rule):
        numbers = {fault: least(rule, fault) for fault in FAULTS}
        for askers in range(1, 5):
            line = SlowLine(rule, askers)
            for fault in ("none", "two"):
                fewest = line.fewest(fault)
                here = numbers[fault] is not None and numbers[fault] <= askers
                self.assertIs(fewest is not None, here, (fault, askers, str(rule)))
                if numbers[fault] == askers:
                    self.assertEqual(len(history(rule, fault)[1]), fewest, str(rule))
            here = numbers["endless"] is not None and numbers["endless"] <= askers
            self.assertIs(line.waits() is None, here, (askers, str(rule)))

    def test_rules_of_the_tables(self):
        for rule in rules_of_the_tables():
            self.same(rule)

    def test_rules_by_chance(self):
        for rule in random_rules(120, 2):
            self.same(rule)

    def test_two_rows_of_every_kind(self):
        kinds = list(product(("keep", "at", "past", "under", "all"), ("stay", "on", "home"), (False, True)))
        for at, (pick, move, also) in enumerate(kinds):
            other, step, too = kinds[(at * 7 + 3) % len(kinds)]
            for tail in ("on", "home"):
                self.same(Rule("a", [Row("a", pick, move, "b", also), Row("a", other, step, "a", too),
                                     Row("a", "all", tail, "b"), Row("b", "past", "on", "a", also),
                                     Row("b", "all", tail, "a", too)]))


class StepsTest(unittest.TestCase):
    """Compares with the steps of points 13 and 14, for any number of askers."""

    def same(self, rule):
        self.assertIs(happens(rule, "endless"), slow_endless(rule), str(rule))
        for fault in ("none", "two"):
            self.assertIs(happens(rule, fault), slow_happens(rule, fault), (fault, str(rule)))

    def test_rules_of_the_tables(self):
        for rule in rules_of_the_tables():
            self.same(rule)

    def test_rules_by_chance(self):
        for rule in random_rules(60, 3):
            self.same(rule)


class RingTest(unittest.TestCase):
    def shown(self, rule):
        told = ring(rule)
        if told is None:
            self.assertIs(happens(rule, "endless"), False)
            self.assertIsNotNone(paper(rule))
            return
        self.assertIsNone(paper(rule))
        self.assertEqual((type(told), len(told), told[0]), (tuple, 4, least(rule, "endless")))
        number, asker, ahead, turn = told
        self.assertEqual((type(number), type(asker)), (int, int))
        self.assertIn(asker, range(number))
        self.assertTrue(are_rounds(ahead, number) and are_rounds(turn, number))
        self.assertTrue(is_ring(rule, told), str(rule))
        self.assertIs(ring_holds(rule, told), True)

    def test_rings_are_rings(self):
        for rule in rules_of_the_tables() + random_rules(150, 4):
            self.shown(rule)

    def test_no_ring(self):
        for text, _ in GROWTHS:
            self.assertIsNone(ring(Rule.read(text)))

    def test_a_ring_with_several_rounds(self):
        number, asker, _, turn = ring(Rule.read(STAIRS))
        self.assertEqual((number, asker), (4, 3))
        self.assertGreater(len(turn), 2)


class RingHoldsTest(unittest.TestCase):
    RULES = (FIXED, LOCK, BLIND, STAIRS, LATE, FAIR, WEIGHTED, "first run", FULL)

    def test_rings_that_are_not_the_least(self):
        lock = Rule.read(LOCK)
        for value in ((2, 0, ((1,),), ((0, 1),)), (3, 0, ((1,), (0, 1)), ((0, 1, 2), (0, 1))),
                      (5, 4, ((3,), (), (2, 3)), ((3, 4), (0, 3, 4), (1, 2, 3, 4)))):
            self.assertIs(ring_holds(lock, value), True)
            self.assertIs(ring_holds(rule=lock, value=value), True)

    def test_what_is_no_ring(self):
        lock = Rule.read(LOCK)
        for value in ((2, 0, ((1,),), ()), (2, 0, (), ((0, 1),)), (2, 0, ((1,),), ((1,),)), (2, 1, ((1,),), ((0, 1),)),
                      (2, 0, ((1,),), ((0, 1), (1,))), (2, 0, ((1,),), ((0, 1), (0,))), (2, 0, ((1,),), ((0, 1), ()))):
            self.assertIs(ring_holds(lock, value), False, value)

    def test_mode_and_pointer_come_back(self):
        swing = Rule.read("first a\na under on b\na past on b\na all on b\nb past on a\nb all on a")
        self.assertIs(ring_holds(swing, (3, 2, ((0,),), ((1, 2), (0, 1, 2)))), True)
        self.assertIs(ring_holds(swing, (3, 2, ((0,),), ((1, 2),))), False)
        alone = Rule.read("first a\na past on a\na all on a\na under on a")
        self.assertIs(ring_holds(alone, (3, 2, ((0,),), ((1, 2),))), False)
        modes = Rule.read("first a\na all stay b\nb all stay a")
        self.assertIs(ring_holds(modes, (2, 1, (), ((0, 1),))), False)
        self.assertIs(ring_holds(modes, (2, 1, (), ((0, 1), (0, 1)))), True)

    def test_the_asker_is_not_granted_by_an_also_row(self):
        rule = Rule.read(FIXED + "\nrun past stay run also")
        self.assertIs(ring_holds(rule, (2, 1, (), ((0, 1),))), True)
        rule = Rule.read("first a\na all on b\nb keep stay b\nb past stay b also")
        self.assertIs(ring_holds(rule, (3, 1, ((0,),), ((0, 1),))), False)
        self.assertIs(ring_holds(rule, (3, 2, ((0,),), ((0, 1, 2),))), True)

    def test_a_round_in_which_nobody_is_granted(self):
        self.assertIs(ring_holds(Rule("run"), (1, 0, (), ((0,),))), True)
        self.assertIs(ring_holds(Rule("run"), (2, 0, ((1,), ()), ((0, 1), (0,)))), True)
        self.assertIs(ring_holds(Rule("run"), (1, 0, (), ((),))), False)

    def test_a_ring_of_a_great_n(self):
        for many in (41, 1000, 10 ** 30):
            top = many - 1
            self.assertIs(ring_holds(Rule.read(FIXED), (many, top, ((0, 5),), ((3, top), (0, 7, top)))), True)
            self.assertIs(ring_holds(Rule.read(LOCK), (many, 0, ((top,),), ((0, top),))), True)
            self.assertIs(ring_holds(Rule.read(LOCK), (top, 0, ((top,),), ((0, top),))), False)
            self.assertIs(ring_holds(Rule.read(FAIR), (many, top, ((0,),), ((3, top), (0, 7, top)))), False)

    def test_a_ring_of_many_askers_and_rounds(self):
        crowd = tuple(range(2000))
        self.assertIs(ring_holds(Rule.read(FIXED), (2000, 1999, (crowd,) * 20, (crowd,) * 20)), True)

    def test_any_values(self):
        parts = any_values() + [((0,),), ((0, 1),), [[0, 1]], ((True,),), {}, object()]
        for text in self.RULES:
            rule = Rule.read(text)
            for value in parts:
                self.assertIs(ring_holds(rule, value), False)
        fixed = Rule.read(FIXED)
        right = (2, 1, ((0,),), ((0, 1), (0, 1)))
        told = [right[:at] + (value,) + right[at + 1:] for at, value in product(range(4), parts)]
        for value in parts:
            told += [(2, 1, (value,), right[3]), (2, 1, right[2], (value, (0, 1))), (2, 1, right[2], ((0, value),)),
                     (2, 1, ((value,),), right[3])]
        for value in told:
            self.assertIs(ring_holds(fixed, value), has_form(value) and is_ring(fixed, value), value)
        self.assertGreater(len([value for value in told if ring_holds(fixed, value)]), 5)

    def test_the_form(self):
        fixed = Rule.read(FIXED)
        right = (3, 2, ((1,), ()), ((0, 2), (0, 1, 2)))
        self.assertIs(ring_holds(fixed, right), True)
        wrong = [
            [3, 2, ((1,), ()), ((0, 2), (0, 1, 2))],
            (3, 2, [(1,), ()], ((0, 2), (0, 1, 2))),
            (3, 2, ((1,), ()), [(0, 2), (0, 1, 2)]),
            (3, 2, ([1], ()), ((0, 2), (0, 1, 2))),
            (3, 2, ((1,), []), ((0, 2), (0, 1, 2))),
            (3, 2, ((1,), ()), ([0, 2], (0, 1, 2))),
            (3, 2, ((1,), ()), ((0, 2), (0, 2, 1))),
            (3, 2, ((1,), ()), ((2, 0), (0, 1, 2))),
            (3, 2, ((1,), ()), ((0, 2, 2), (0, 1, 2))),
            (3, 2, ((1,), ()), ((0, 0, 2), (0, 1, 2))),
            (3, 2, ((1, 1), ()), ((0, 2), (0, 1, 2))),
            (3, 2, ((1, 0), ()), ((0, 2), (0, 1, 2))),
            (3, 2, ((True,), ()), ((0, 2), (0, 1, 2))),
            (3, 2, ((1,), ()), ((False, 2), (0, 1, 2))),
            (3, 2, ((1,), ()), ((0, 2), (0, True, 2))),
            (3, 2, ((3,), ()), ((0, 2), (0, 1, 2))),
            (3, 2, ((-1,), ()), ((0, 2), (0, 1, 2))),
            (3, 2, ((1,), ()), ((0, 2), (-1, 2))),
            (3, 2, ((1,), ()), ((0, 2, 3), (0, 1, 2))),
            (2, 2, ((1,), ()), ((0, 2), (0, 1, 2))),
            (3, 3, ((1,), ()), ((0, 3), (0, 1, 3))),
            (3, -1, ((1,), ()), ((0, 2), (0, 1, 2))),
            (3, 0, ((1,), ()), ((0, 2), (0, 1, 2))),
            (3, 1, ((1,), ()), ((0, 2), (0, 1, 2))),
            ("3", 2, ((1,), ()), ((0, 2), (0, 1, 2))),
            (3, "2", ((1,), ()), ((0, 2), (0, 1, 2))),
            (3, 2, ((1,), ()), ((0, 2), (0, 1, 2)), ()),
            (3, 2, ((1,), ()), ()),
            (3, 2, ((0, 2), (0, 1, 2))),
            (2, ((1,), ()), ((0, 2), (0, 1, 2))),
            (3, 2, (1,), ((0, 2), (0, 1, 2))),
            (3, 2, None, ((0, 2), (0, 1, 2))),
            (3, 2, (None,), ((0, 2), (0, 1, 2))),
            (3, 2, (("1",),), ((0, 2), (0, 1, 2))),
            (3, 2, "", ((0, 2), (0, 1, 2))),
            (3, 2, (), (0, 2)),
            (3, 2, (), ((0, 2), 2)),
            (3, 2, (), (((0, 2),),)),
            (0, 0, (), ((0,),)),
            (-1, -2, (), ((-2,),)),
            (), (right,), None,
        ]
        for value in wrong:
            self.assertIs(ring_holds(fixed, value), False, value)

    def test_bools_for_the_numbers(self):
        empty = Rule("run")
        self.assertIs(ring_holds(empty, (1, 0, (), ((0,),))), True)
        for value in ((True, 0, (), ((0,),)), (1, False, (), ((0,),)), (1, 0, (), ((False,),)), (2, True, (), ((1,),))):
            self.assertIs(ring_holds(empty, value), False)

    def test_one_thing_otherwise(self):
        for rule in [Rule.read(text) for text in self.RULES] + random_rules(20, 5):
            told = ring(rule)
            if told is None:
                continue
            number, asker, ahead, turn = told
            rounds = [tuple(set(asking)) for asking in product(range(number), repeat=min(number, 2))] + [()]
            others = [(number, other, ahead, turn) for other in range(number)]
            others += [(number + 1, asker, ahead, turn), (number, asker, ahead, turn + turn)]
            for at in range(len(ahead)):
                others += [(number, asker, ahead[:at] + (some,) + ahead[at + 1:], turn) for some in rounds]
                others += [(number, asker, ahead[:at] + ahead[at + 1:], turn)]
            for at in range(len(turn)):
                others += [(number, asker, ahead, turn[:at] + (some,) + turn[at + 1:]) for some in rounds]
                others += [(number, asker, ahead, turn[:at] + turn[at + 1:])]
            for other in others:
                self.assertIs(ring_holds(rule, other), is_ring(rule, other), (str(rule), other))


class LimitsTest(unittest.TestCase):
    def test_four_modes_and_twelve_rows(self):
        full = Rule.read(FULL)
        self.assertEqual((len(full), len(full.modes)), (12, 4))
        self.assertEqual((faults(full), least(full, "two"), ring(full)), (("two",), 2, None))

    def test_rules_that_were_added(self):
        rule = Rule.read(FULL)
        for at, name in enumerate("efghijkl"):
            rule = rule + Rule.read(FULL).renamed("a", name).renamed("b", name + "b").renamed("d", name + "d")
        self.assertEqual((len(rule), faults(rule), ring(rule)), (108, ("two",), None))
        rule = rule + Rule("x", [Row("d", "keep", "stay", "e", True), Row("c", "all", "home", "l", True)])
        self.assertEqual(faults(rule), ("two",))


class ConventionsTest(unittest.TestCase):
    def test_names(self):
        wanted = {"happens": "(rule, fault)", "least": "(rule, fault)", "faults": "(rule)", "history": "(rule, fault)",
                  "ring": "(rule)", "ring_holds": "(rule, value)"}
        for name, parameters in wanted.items():
            function = getattr(deciding, name)
            self.assertEqual(str(inspect.signature(function)), parameters)
            self.assertEqual(function.__module__, "lineturns.deciding")

    def test_arguments_by_name(self):
        rule = Rule.read(DOUBLE)
        self.assertIs(happens(fault="two", rule=rule), True)
        self.assertEqual((least(fault="two", rule=rule), faults(rule=rule)), (2, ("endless", "two")))
        self.assertEqual((history(fault="two", rule=rule)[0], ring(rule=rule)[0]), (2, 2))

    def test_the_same_call_returns_an_equal_result(self):
        rules = rules_of_the_tables()
        first = [(faults(rule), history(rule, "two"), history(rule, "none"), ring(rule)) for rule in rules]
        again = [(faults(rule), history(rule, "two"), history(rule, "none"), ring(rule)) for rule in rules[::-1]]
        self.assertEqual(first, again[::-1])

    def test_rules_do_not_change(self):
        for text, _ in GROWTHS + FAULTY:
            rule = Rule.read(text)
            faults(rule), history(rule, "two"), history(rule, "none"), ring(rule)
            self.assertEqual((str(rule), rule.modes), (text, Rule.read(text).modes))

    def test_equal_rules_have_equal_answers(self):
        for text in (LATE, STAIRS):
            self.assertEqual(faults(Rule.read(text)), faults(Rule.read(text) + Rule("zzz")))


if __name__ == "__main__":
    unittest.main()
