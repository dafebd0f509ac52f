import inspect
import unittest

from lineturns import waiting
from lineturns.deciding import happens, least
from lineturns.papers import paper
from lineturns.rounds import play
from lineturns.rows import Row
from lineturns.rules import Rule
from lineturns.waiting import growth, least_worse, longest, waits
from samples import BLIND, DOUBLE, FAIR, FAULTY, FIXED, FULL, GROWTHS, LOCK, STAIRS, TWIN, WEIGHTED, slow_play
from slow import SlowLine, random_rules, slow_endless


def rules_of_the_tables():
    return [Rule.read(text) for text, _ in GROWTHS + FAULTY]


class ExamplesTest(unittest.TestCase):
    def test_the_overview(self):
        fair, fixed = Rule.read(FAIR), Rule.read(FIXED)
        self.assertEqual((waits(fair, 5), growth(fair)), (4, (1, 1)))
        self.assertEqual((waits(fixed, 1), waits(fixed, 2)), (0, None))

    def test_a_weighted_rule(self):
        fair, weighted = Rule.read(FAIR), Rule.read(WEIGHTED)
        self.assertEqual((growth(weighted), waits(weighted, 4)), ((2, 1), 6))
        self.assertEqual((least_worse(fair, weighted, 6), least_worse(weighted, fair, 6)), (2, None))


class WaitsTest(unittest.TestCase):
    def test_rules_that_are_known(self):
        for askers in range(1, 17):
            self.assertEqual(waits(Rule.read(FAIR), askers), askers - 1)
            self.assertEqual(waits(Rule.read(TWIN), askers), askers - 1)
            self.assertEqual(waits(Rule.read(WEIGHTED), askers), 2 * (askers - 1))
            self.assertIs(type(waits(Rule.read(FAIR), askers)), int)

    def test_endless_from_some_number_on(self):
        for text, (number, _, _) in FAULTY:
            rule = Rule.read(text)
            for askers in range(1, 9):
                self.assertIs(waits(rule, askers) is None, askers >= number, text)
                self.assertIs(longest(rule, askers) is None, askers >= number, text)

    def test_one_asker(self):
        self.assertEqual((waits(Rule.read(FAIR), 1), longest(Rule.read(FAIR), 1)[2]), (0, ()))
        self.assertEqual((waits(Rule("run"), 1), longest(Rule("run"), 1)), (None, None))
        # Behind one round the only asker is never granted again.
        for text in ("first a\na all on b\nb under stay c\nb past on c", "first a\na all home b\nb keep on a"):
            self.assertIsNone(waits(Rule.read(text), 1))

    def test_slow_way(self):
        for rule in rules_of_the_tables() + random_rules(120, 11):
            for askers in range(1, 5):
                self.assertEqual(waits(rule, askers), SlowLine(rule, askers).waits(), (askers, str(rule)))

    def test_slow_way_with_five_askers(self):
        for text in (FAIR, WEIGHTED, FULL, STAIRS):
            self.assertEqual(waits(Rule.read(text), 5), SlowLine(Rule.read(text), 5).waits())

    def test_more_askers_wait_no_less(self):
        for text, _ in GROWTHS:
            told = [waits(Rule.read(text), askers) for askers in range(1, 13)]
            self.assertEqual(told, sorted(told))


class LongestTest(unittest.TestCase):
    def shown(self, rule, askers):
        told = longest(rule, askers)
        most = waits(rule, askers)
        if most is None:
            self.assertIsNone(told)
            return
        self.assertEqual((type(told), len(told)), (tuple, 3))
        asker, ahead, vain = told
        self.assertIs(type(asker), int)
        self.assertEqual(len(vain), most)
        for rounds in (ahead, vain):
            self.assertIs(type(rounds), tuple)
            for asking in rounds:
                self.assertEqual(asking, tuple(sorted(set(asking))))
        for grants in (slow_play(rule, askers, ahead + vain)[0], play(rule, askers, ahead + vain).grants):
            for asking, granted in zip(vain, grants[len(ahead):]):
                self.assertIn(asker, asking)
                self.assertNotIn(asker, granted)

    def test_what_it_shows(self):
        for rule in rules_of_the_tables() + random_rules(60, 12):
            for askers in (1, 2, 3, 5, 8):
                self.shown(rule, askers)

    def test_none_and_endless_go_together(self):
        for rule in rules_of_the_tables() + random_rules(60, 13):
            number = least(rule, "endless")
            for askers in (1, 2, 3, 4, 6):
                endless = number is not None and number <= askers
                self.assertEqual((waits(rule, askers) is None, longest(rule, askers) is None), (endless, endless))


class GrowthTest(unittest.TestCase):
    def test_rules_of_the_table(self):
        for text, pair in GROWTHS:
            self.assertEqual(growth(Rule.read(text)), pair, text)

    def test_longer_lines(self):
        # The rates of these rules have periods that twelve is a multiple of.
        for text, (rounds, askers) in GROWTHS:
            told = [waits(Rule.read(text), number) for number in (16, 28, 40)]
            self.assertEqual([(told[1] - told[0]) * askers, (told[2] - told[1]) * askers], [12 * rounds] * 2, text)

    def test_longer_lines_of_rules_by_chance(self):
        for rule in random_rules(150, 14):
            pair = growth(rule)
            if pair is not None:
                told = [waits(rule, number) for number in (16, 28)]
                self.assertEqual((told[1] - told[0]) * pair[1], 12 * pair[0], str(rule))

    def test_none_if_endless(self):
        for rule in rules_of_the_tables() + random_rules(120, 15):
            self.assertIs(growth(rule) is None, happens(rule, "endless"))
            self.assertIs(growth(rule) is None, paper(rule) is None)
        for text, _ in FAULTY:
            self.assertIsNone(growth(Rule.read(text)))

    def test_none_by_the_steps(self):
        for rule in rules_of_the_tables() + random_rules(40, 16):
            self.assertIs(growth(rule) is None, slow_endless(rule), str(rule))

    def test_the_pair(self):
        for text, _ in GROWTHS:
            pair = growth(Rule.read(text))
            self.assertEqual((type(pair), [type(part) for part in pair]), (tuple, [int, int]))
            self.assertTrue(all(part > 0 for part in pair))
            self.assertFalse([part for part in range(2, 10) if pair[0] % part == 0 and pair[1] % part == 0])

    def test_weights(self):
        for weight in range(2, 7):
            names = "abcdefg"[:weight]
            rows = []
            for mode, then in zip(names, names[1:]):
                rows.append(Row(mode, "keep", "stay", then))
            for mode in names:
                rows += [Row(mode, "past", "on", "a"), Row(mode, "all", "on", "a")]
            self.assertEqual(growth(Rule("a", rows)), (weight, 1))
            self.assertEqual(waits(Rule("a", rows), 5), weight * 4)

    def test_modes_that_never_come_about(self):
        rule = Rule.read(WEIGHTED)
        self.assertEqual(growth(rule.renamed("one", "x") + Rule.read(FAIR)), (2, 1))
        self.assertEqual(growth(Rule.read(FAIR) + rule), (1, 1))
        self.assertEqual(growth(Rule.read(FAIR) + Rule.read("first b\nb keep stay b")), (1, 1))


class LeastWorseTest(unittest.TestCase):
    def test_by_the_waits(self):
        rules = [Rule.read(text) for text in (FAIR, WEIGHTED, FIXED, STAIRS, "first run", FULL)]
        for p in rules:
            for q in rules:
                wanted = []
                for askers in range(1, 7):
                    mine, other = waits(p, askers), waits(q, askers)
                    if mine is not None and (other is None or other > mine):
                        wanted.append(askers)
                for most in range(7):
                    found = wanted[0] if wanted and wanted[0] <= most else None
                    self.assertEqual(least_worse(p, q, most), found)

    def test_for_ever_is_longer_than_any_number(self):
        fair, fixed, lock = Rule.read(FAIR), Rule.read(FIXED), Rule.read(LOCK)
        self.assertEqual((least_worse(fair, fixed, 16), least_worse(fixed, fair, 16)), (2, None))
        self.assertIsNone(least_worse(fixed, lock, 6))
        self.assertEqual(least_worse(fixed, Rule.read(BLIND), 1), 1)
        self.assertEqual(least_worse(fair, Rule("run"), 1), 1)
        self.assertEqual(least_worse(Rule.read(WEIGHTED), Rule.read(DOUBLE), 3), 2)

    def test_at_most(self):
        fair, weighted = Rule.read(FAIR), Rule.read(WEIGHTED)
        self.assertEqual([least_worse(fair, weighted, most) for most in (0, 1, 2, 3)], [None, None, 2, 2])
        self.assertIsNone(least_worse(fair, Rule("run"), 0))
        self.assertIsNone(least_worse(fair, fair, 16))

    def test_longer_from_a_greater_number_on(self):
        # The waits are 0, 1 and 4 rounds by STAIRS, and then for ever; 0, 2, 4 and 6 by WEIGHTED.
        self.assertEqual(least_worse(Rule.read(WEIGHTED), Rule.read(STAIRS), 16), 4)
        self.assertIsNone(least_worse(Rule.read(WEIGHTED), Rule.read(STAIRS), 3))


class LimitsTest(unittest.TestCase):
    def test_sixteen_askers(self):
        full = Rule.read(FULL)
        self.assertEqual((len(full), len(full.modes), waits(full, 16)), (12, 4, 59))
        self.assertEqual(len(longest(full, 16)[2]), 59)
        self.assertEqual(least_worse(Rule.read(WEIGHTED), full, 16), 2)
        self.assertIsNone(least_worse(full, Rule.read(WEIGHTED), 16))

    def test_endless_with_sixteen_askers(self):
        for text in (FIXED, LOCK, STAIRS, "first run"):
            self.assertEqual((waits(Rule.read(text), 16), longest(Rule.read(text), 16)), (None, None))

    def test_a_rule_that_was_added(self):
        rule = Rule.read(FULL)
        for name in "efgh":
            rule = rule + Rule.read(FULL).renamed("a", name)
        self.assertEqual((len(rule), growth(rule), waits(rule, 16)), (60, (4, 1), 59))


class ConventionsTest(unittest.TestCase):
    def test_names(self):
        wanted = {"waits": "(rule, askers)", "longest": "(rule, askers)", "growth": "(rule)",
                  "least_worse": "(p, q, most)"}
        for name, parameters in wanted.items():
            function = getattr(waiting, name)
            self.assertEqual((str(inspect.signature(function)), function.__module__), (parameters, "lineturns.waiting"))

    def test_arguments_by_name(self):
        fair, weighted = Rule.read(FAIR), Rule.read(WEIGHTED)
        self.assertEqual((waits(askers=4, rule=weighted), growth(rule=weighted)), (6, (2, 1)))
        self.assertEqual(len(longest(askers=4, rule=weighted)[2]), 6)
        self.assertEqual(least_worse(most=6, q=weighted, p=fair), 2)

    def test_the_same_call_returns_an_equal_result(self):
        rules = rules_of_the_tables()
        first = [(waits(rule, 6), longest(rule, 4), growth(rule)) for rule in rules]
        again = [(waits(rule, 6), longest(rule, 4), growth(rule)) for rule in rules[::-1]]
        self.assertEqual(first, again[::-1])

    def test_rules_do_not_change(self):
        for text, _ in GROWTHS + FAULTY:
            rule = Rule.read(text)
            waits(rule, 5), longest(rule, 5), growth(rule), least_worse(rule, rule, 3)
            self.assertEqual((str(rule), rule.modes), (text, Rule.read(text).modes))


if __name__ == "__main__":
    unittest.main()
