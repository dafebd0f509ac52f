import inspect
import unittest
from itertools import product

from lineturns import papers
from lineturns.deciding import happens, ring, ring_holds
from lineturns.papers import paper, paper_holds
from lineturns.rows import Row
from lineturns.rules import Rule
from samples import BLIND, FAIR, FAULTY, FIXED, FULL, GROWTHS, LOCK, STAIRS, WEIGHTED, any_values
from slow import random_rules, slow_endless, slow_right, slow_spots, slow_steps

SIDES = ("home", "low", "here", "high")
# The paper of the document for FAIR.
TOLD = (("run", "home", 1, "up", 0), ("run", "low", 0, "up", 0), ("run", "here", 3, "up", 0),
        ("run", "high", 2, "up", 0))
# In `a` the pointer goes down at low, in `b` it goes up.
DOWN = "first a\na under on a\na all on b\nb past on b\nb all on a"


def rules_of_the_tables():
    return [Rule.read(text) for text, _ in GROWTHS + FAULTY]


def with_thing(right, at, place, value):
    """A paper with another thing at a place of an entry."""
    entry = right[at][:place] + (value,) + right[at][place + 1:]
    return right[:at] + (entry,) + right[at + 1:]


def unused(name):
    """Entries of a mode at all sides, with a stage past those of TOLD."""
    return tuple((name, side, 4, "down", 7) for side in SIDES)


class ExamplesTest(unittest.TestCase):
    def test_the_papers_of_the_document(self):
        fair = Rule.read(FAIR)
        self.assertIs(paper_holds(fair, TOLD), True)
        self.assertIs(paper_holds(fair, TOLD[:3]), False)
        self.assertIsNone(paper(Rule.read(FIXED)))


class PaperTest(unittest.TestCase):
    def shown(self, rule):
        told = paper(rule)
        if told is None:
            self.assertIs(happens(rule, "endless"), True)
            self.assertIs(ring_holds(rule, ring(rule)), True)
            return
        self.assertIs(happens(rule, "endless"), False)
        self.assertIsNone(ring(rule))
        self.assertIs(type(told), tuple)
        for entry in told:
            self.assertEqual([type(thing) for thing in entry], [str, str, int, str, int])
            mode, side, stage, way, rank = entry
            self.assertTrue(mode in rule.modes and side in SIDES and stage >= 0 and way in ("up", "down") and rank >= 0)
        self.assertTrue(slow_right(rule, told), str(rule))
        self.assertIs(paper_holds(rule, told), True)

    def test_papers_are_right(self):
        for rule in rules_of_the_tables() + random_rules(120, 21):
            self.shown(rule)

    def test_a_ring_or_a_paper(self):
        for rule in rules_of_the_tables() + random_rules(120, 22):
            self.assertIs(paper(rule) is None, ring(rule) is not None)

    def test_none_by_the_steps(self):
        for rule in rules_of_the_tables() + random_rules(40, 23):
            self.assertIs(paper(rule) is None, slow_endless(rule), str(rule))

    def test_endless_rules_have_none(self):
        for text, _ in FAULTY:
            self.assertIsNone(paper(Rule.read(text)))
            self.assertIs(paper_holds(Rule.read(text), ()), False)

    def test_both_ways(self):
        ways = {(mode, side): way for mode, side, _, way, _ in paper(Rule.read(DOWN))}
        self.assertEqual((ways[("a", "low")], ways[("b", "low")]), ("down", "up"))


class PaperHoldsTest(unittest.TestCase):
    def test_entries_in_any_order(self):
        fair = Rule.read(FAIR)
        self.assertIs(paper_holds(fair, TOLD[::-1]), True)
        self.assertIs(paper_holds(fair, TOLD[2:] + TOLD[:2]), True)
        self.assertIs(paper_holds(rule=fair, value=TOLD), True)

    def test_great_numbers(self):
        fair = Rule.read(FAIR)
        great = tuple((mode, side, stage * 10 ** 30, way, 10 ** 30) for mode, side, stage, way, _ in TOLD)
        self.assertIs(paper_holds(fair, great), True)
        self.assertIs(paper_holds(fair, with_thing(great, 0, 2, 0)), False)

    def test_stages(self):
        fair = Rule.read(FAIR)
        for stages in product(range(4), repeat=4):
            home, low, here, high = stages
            told = tuple((mode, side, stages[at], way, rank) for at, (mode, side, _, way, rank) in enumerate(TOLD))
            # Steps lead from here to high and low, from high to low, and from home to low.
            wanted = here > high > low and here > low and home > low
            self.assertIs(paper_holds(fair, told), wanted, stages)

    def test_ways(self):
        fair = Rule.read(FAIR)
        for ways in product(("up", "down"), repeat=4):
            told = tuple((mode, side, stage, ways[at], rank) for at, (mode, side, stage, _, rank) in enumerate(TOLD))
            # Low and high go up without another stage.
            self.assertIs(paper_holds(fair, told), (ways[1], ways[3]) == ("up", "up"), ways)

    def test_ranks(self):
        fair, weighted = Rule.read(FAIR), Rule.read(WEIGHTED)
        for ranks in product(range(2), repeat=4):
            told = tuple((mode, side, stage, way, ranks[at]) for at, (mode, side, stage, way, _) in enumerate(TOLD))
            self.assertIs(paper_holds(fair, told), True)
        # In `one` a pointed asker is granted without a move, in `two` another one: still from the one to the other.
        for ranks in product(range(3), repeat=4):
            one_low, two_low, one_high, two_high = ranks
            told = (("one", "home", 1, "up", 0), ("one", "here", 3, "up", 0), ("two", "here", 3, "up", 0),
                    ("two", "home", 2, "up", 0), ("one", "low", 0, "up", one_low), ("two", "low", 0, "up", two_low),
                    ("one", "high", 2, "up", one_high), ("two", "high", 2, "up", two_high))
            wanted = one_low > two_low and one_high > two_high
            self.assertIs(paper_holds(weighted, told), wanted, ranks)

    def test_the_same_stage_with_another_way(self):
        weighted = Rule.read(WEIGHTED)
        told = paper(weighted)
        for at, (mode, side, stage, _, _) in enumerate(told):
            other = with_thing(told, at, 3, "down")
            self.assertIs(paper_holds(weighted, other), slow_right(weighted, other))
        self.assertFalse(all(paper_holds(weighted, with_thing(told, at, 3, "down")) for at in range(len(told))))

    def test_a_way_that_changes_within_a_stage(self):
        rule = Rule.read("first a\na all on b\nb past on c\nb all on c\nc past on d\nc all on d\n"
                         "d past on d\nd all on d")
        told = paper(rule)
        for stages, ways in product(product(range(1, 3), repeat=2), product(("up", "down"), repeat=2)):
            low = {"b": (stages[0] + 10, ways[0]), "c": (stages[1] + 10, ways[1]), "d": (10, "up")}
            others = [entry for entry in told if entry[1] != "low"]
            value = [(mode, side, stage + 100, way, rank) for mode, side, stage, way, rank in others]
            value += [(mode, "low", *low[mode], 0) for mode in low]
            # The one step from `b` at low is up to `c`, and from there up to `d`.
            wanted = stages[0] > stages[1] or (stages[0] == stages[1] and ways == ("up", "up"))
            self.assertIs(paper_holds(rule, tuple(value)), wanted, (stages, ways))
            self.assertIs(slow_right(rule, tuple(value)), wanted)

    def test_a_still_step_with_another_way(self):
        rule = Rule.read("first a\na all on b\nb past stay c\nb all on c\nc past on d\nc all on d\n"
                         "d past on d\nd all on d")
        told = paper(rule)
        for way, rank in product(("up", "down"), range(3)):
            low = {"b": (11, "up", 1), "c": (11, way, rank), "d": (10, "up", 0)}
            others = [entry for entry in told if entry[1] != "low"]
            value = [(mode, side, stage + 100, other, old) for mode, side, stage, other, old in others]
            value += [(mode, "low", *low[mode]) for mode in low]
            self.assertIs(paper_holds(rule, tuple(value)), (way, rank) == ("up", 0), (way, rank))
            self.assertIs(slow_right(rule, tuple(value)), (way, rank) == ("up", 0))

    def test_a_step_against_the_way(self):
        tail = "\nb all on c\nc past on d\nc all on d\nd past on d\nd all on d"
        for pick in ("under", "past"):
            rule = Rule.read("first a\na all on b\nb " + pick + " on c" + tail)
            others = [entry for entry in paper(rule) if entry[1] != "low"]
            value = [(mode, side, stage + 100, way, rank) for mode, side, stage, way, rank in others]
            value += [("b", "low", 11, "up", 1), ("c", "low", 11, "up", 0), ("d", "low", 10, "up", 0)]
            # By `under` there is a step down, too, and it does not lead on, though the rank is less.
            self.assertIs(paper_holds(rule, tuple(value)), pick == "past")
            self.assertIs(slow_right(rule, tuple(value)), pick == "past")

    def test_entries_out(self):
        for text in (FAIR, WEIGHTED, FULL, DOWN):
            rule = Rule.read(text)
            told = paper(rule)
            spots = slow_spots(rule)
            for at, entry in enumerate(told):
                wanted = entry[:2] not in spots
                self.assertIs(paper_holds(rule, told[:at] + told[at + 1:]), wanted, entry)
        self.assertIs(paper_holds(Rule.read(FAIR), ()), False)

    def test_entries_twice(self):
        fair = Rule.read(FAIR)
        for at, entry in enumerate(TOLD):
            self.assertIs(paper_holds(fair, TOLD + (entry,)), False)
            self.assertIs(paper_holds(fair, (entry,) + TOLD), False)
            self.assertIs(paper_holds(fair, TOLD[:at] + (entry[:4] + (9,),) + TOLD[at:]), False)
        self.assertIs(paper_holds(fair, TOLD + TOLD), False)

    def test_entries_of_modes_that_never_come_about(self):
        rule = Rule.read(FAIR + "\nb all on run\nc all on c")
        self.assertIs(paper_holds(rule, TOLD), True)
        self.assertIs(paper_holds(rule, TOLD + unused("b")), True)
        # The three pointed sides stand together; at home may be left out, as nothing leads there.
        self.assertIs(paper_holds(rule, TOLD + unused("b")[1:]), True)
        self.assertIs(paper_holds(rule, TOLD + unused("b")[:1]), True)
        for at in (1, 2, 3):
            self.assertIs(paper_holds(rule, TOLD + unused("b")[:at] + unused("b")[at + 1:]), False)
        # In `c` an asker can ask in vain for ever, though it never comes about.
        self.assertIs(paper_holds(rule, TOLD + unused("c")), False)
        # What is no mode of the rule may not stand there.
        self.assertIs(paper_holds(rule, TOLD + unused("d")), False)
        self.assertIs(paper_holds(Rule.read(FAIR), TOLD + unused("b")), False)

    def test_what_stands_there_must_be_right_also_if_it_never_comes_about(self):
        rule = Rule.read(FAIR + "\nb all on run")
        for stage in range(5):
            told = TOLD + tuple(("b", side, stage, "up", 0) for side in SIDES)
            # From `b` at each side steps lead to `run` at low, not past it.
            self.assertIs(paper_holds(rule, told), slow_right(rule, told), stage)
            self.assertIs(paper_holds(rule, told), stage > 0, stage)

    def test_the_first_mode_at_home_must_stand_there(self):
        rule = Rule.read("first a\na all on b\nb past on b\nb all on b")
        told = paper(rule)
        self.assertIs(paper_holds(rule, told), True)
        rest = tuple(entry for entry in told if entry[:2] != ("a", "home"))
        self.assertEqual(len(rest), len(told) - 1)
        self.assertIs(paper_holds(rule, rest), False)
        self.assertIs(paper_holds(Rule("b", rule.rows), rest), False)

    def test_rounds_that_are_not_in_vain_count_too(self):
        # To `c` leads only a round in which the pointed asker alone asks, so no other one can ask in vain.
        rule = Rule.read("first x\nx all on a\na under on b\na past on b\na keep on c\nb past on b\nb all on b\n"
                         "c past on b\nc all on b")
        told = paper(rule)
        self.assertIs(paper_holds(rule, told), True)
        for spot in slow_spots(rule):
            self.assertNotIn("c", [behind[0] for _, behind in slow_steps(rule, spot)])
        rest = tuple(entry for entry in told if entry[0] != "c")
        self.assertEqual(len(rest), len(told) - 3)
        self.assertIs(paper_holds(rule, rest), False)

    def test_one_thing_otherwise(self):
        for rule in [Rule.read(text) for text, _ in GROWTHS[:6]] + [Rule.read(DOWN)] + random_rules(24, 24):
            told = paper(rule)
            if told is None:
                continue
            others = []
            for at, (mode, side, stage, way, rank) in enumerate(told):
                others += [with_thing(told, at, 0, other) for other in rule.modes]
                others += [with_thing(told, at, 1, other) for other in SIDES]
                others += [with_thing(told, at, 2, other) for other in (0, stage + 1, max(stage - 1, 0), 99)]
                others += [with_thing(told, at, 3, other) for other in ("up", "down")]
                others += [with_thing(told, at, 4, other) for other in (0, rank + 1, max(rank - 1, 0), 99)]
            for other in others:
                self.assertIs(paper_holds(rule, other), slow_right(rule, other), (str(rule), other))

    def test_papers_of_other_rules(self):
        rules = [rule for rule in rules_of_the_tables() + random_rules(30, 25) if paper(rule) is not None]
        for rule, other in product(rules[:14], rules[:14]):
            told = paper(other)
            wanted = {entry[0] for entry in told} <= set(rule.modes) and slow_right(rule, told)
            self.assertIs(paper_holds(rule, told), wanted)


class FormTest(unittest.TestCase):
    def test_any_values(self):
        fair = Rule.read(FAIR)
        for value in any_values() + [{}, {1: 2}, object(), [TOLD], (TOLD,)]:
            for rule in (fair, Rule.read(FIXED), Rule("run")):
                self.assertIs(paper_holds(rule, value), False)
                self.assertIs(paper_holds(rule, (value,)), False)
                self.assertIs(paper_holds(rule, TOLD + (value,)), False)
        for at, place, value in product(range(4), range(5), any_values() + [{}, {1: 2}, object()]):
            told = with_thing(TOLD, at, place, value)
            if place in (2, 4):
                fits = type(value) is int and value >= 0
            else:
                fits = type(value) is str and value == TOLD[at][place]
            self.assertIs(paper_holds(fair, told), fits and slow_right(fair, told), told)

    def test_lists_for_tuples(self):
        fair = Rule.read(FAIR)
        self.assertIs(paper_holds(fair, list(TOLD)), False)
        for at in range(4):
            self.assertIs(paper_holds(fair, TOLD[:at] + (list(TOLD[at]),) + TOLD[at + 1:]), False)

    def test_bools_for_integers(self):
        fair = Rule.read(FAIR)
        told = tuple(entry[:4] + (1,) for entry in TOLD)
        self.assertIs(paper_holds(fair, told), True)
        self.assertIs(paper_holds(fair, with_thing(told, 0, 2, True)), False)
        self.assertIs(paper_holds(fair, with_thing(told, 1, 2, False)), False)
        for at in range(4):
            self.assertIs(paper_holds(fair, with_thing(told, at, 4, True)), False)
            self.assertIs(paper_holds(fair, with_thing(told, at, 4, False)), False)

    def test_below_nought(self):
        fair = Rule.read(FAIR)
        self.assertIs(paper_holds(fair, with_thing(TOLD, 1, 2, -1)), False)
        for at in range(4):
            self.assertIs(paper_holds(fair, with_thing(TOLD, at, 4, -1)), False)

    def test_words(self):
        fair = Rule.read(FAIR)
        for place, words in ((0, ("ran", "", "Run", "run ")), (1, ("Home", "left", "", "at home")),
                             (3, ("Up", "still", "jump", "", "on"))):
            for at, word in product(range(4), words):
                self.assertIs(paper_holds(fair, with_thing(TOLD, at, place, word)), False)

    def test_more_and_fewer_things(self):
        fair = Rule.read(FAIR)
        for at in range(4):
            self.assertIs(paper_holds(fair, TOLD[:at] + (TOLD[at] + (0,),) + TOLD[at + 1:]), False)
            self.assertIs(paper_holds(fair, TOLD[:at] + (TOLD[at][:4],) + TOLD[at + 1:]), False)
            self.assertIs(paper_holds(fair, TOLD[:at] + ((),) + TOLD[at + 1:]), False)


class LimitsTest(unittest.TestCase):
    def test_four_modes_and_twelve_rows(self):
        full = Rule.read(FULL)
        told = paper(full)
        self.assertEqual((len(full), len(full.modes)), (12, 4))
        self.assertIs(paper_holds(full, told), True)
        self.assertTrue(slow_right(full, told))

    def test_sixty_entries(self):
        modes = "abcdefghijklmno"
        rows = []
        for mode, then in zip(modes, modes[1:] + modes[:1]):
            rows += [Row(mode, "past", "on", then), Row(mode, "all", "on", then)]
        rule = Rule("a", rows)
        told = paper(rule)
        more = tuple((mode, "home", 99 - at, "up", 0) for at, mode in enumerate(modes) if at)
        self.assertEqual((len(told), len(told + more)), (46, 60))
        self.assertIs(paper_holds(rule, told), True)
        self.assertIs(paper_holds(rule, told + more), True)
        self.assertIs(paper_holds(rule, told + more[:-1] + more[:1]), False)

    def test_sixty_entries_for_a_small_rule(self):
        fair = Rule.read(FAIR)
        self.assertIs(paper_holds(fair, TOLD * 15), False)
        self.assertIs(paper_holds(fair, TOLD + tuple(("run", "low", at, "up", at) for at in range(56))), False)


class ConventionsTest(unittest.TestCase):
    def test_names(self):
        for name, parameters in {"paper": "(rule)", "paper_holds": "(rule, value)"}.items():
            function = getattr(papers, name)
            self.assertEqual((str(inspect.signature(function)), function.__module__), (parameters, "lineturns.papers"))

    def test_arguments_by_name(self):
        self.assertIs(paper_holds(value=paper(rule=Rule.read(FAIR)), rule=Rule.read(FAIR)), True)

    def test_the_same_call_returns_an_equal_result(self):
        rules = rules_of_the_tables()
        first = [paper(rule) for rule in rules]
        again = [paper(rule) for rule in rules[::-1]]
        self.assertEqual(first, again[::-1])

    def test_rules_and_papers_do_not_change(self):
        for text in (FAIR, BLIND, LOCK, STAIRS, FULL):
            rule = Rule.read(text)
            paper(rule), paper_holds(rule, TOLD), paper_holds(rule, [list(entry) for entry in TOLD])
            self.assertEqual((str(rule), rule.modes), (text, Rule.read(text).modes))


if __name__ == "__main__":
    unittest.main()
