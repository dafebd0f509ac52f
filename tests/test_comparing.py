import inspect
import random
import unittest
from itertools import product

from lineturns import comparing
from lineturns.comparing import alike, kin, least_parting, merged, needless
from lineturns.rounds import play
from lineturns.rows import Row
from lineturns.rules import Rule
from samples import (
    BLIND, DOUBLE, FAIR, FAULTY, FIXED, FULL, GROWTHS, LATE, LOCK, MOVES, PICKS, STAIRS, TWIN, WEIGHTED, slow_play,
)
from slow import random_rules, slow_kin, slow_parting

MOST = 4


def rules_of_the_tables():
    return [Rule.read(text) for text, _ in GROWTHS + FAULTY]


def starts_of(p, q):
    return [((p.first, None), (q.first, None))]


def with_other_row(rule, at, *arguments):
    """The rule with another row at a place."""
    return Rule(rule.first, rule.rows[:at] + (Row(*arguments),) + rule.rows[at + 1:])


def changed(rule, chance):
    """The rule with one thing of one row otherwise, perhaps the same again."""
    at = chance.randrange(len(rule))
    row = rule[at]
    arguments = [row.mode, row.pick, row.move, row.then, row.also]
    part = chance.randrange(5)
    arguments[part] = [chance.choice(rule.modes), chance.choice(PICKS), chance.choice(MOVES), chance.choice(rule.modes),
                       not row.also][part]
    return with_other_row(rule, at, *arguments)


class ComparingCase(unittest.TestCase):
    def parted(self, p, q):
        """Check what is told of two rules against the slow way; returns the number of rounds, or None."""
        told = least_parting(p, q)
        texts = (str(p), str(q))
        self.assertIs(alike(p, q), told is None, texts)
        self.assertIs(alike(q, p), told is None, texts)
        found = [slow_parting(p, q, askers, starts_of(p, q)) for askers in range(1, MOST + 1)]
        fewest = min((rounds for rounds in found if rounds is not None), default=None)
        if told is None:
            self.assertIsNone(fewest, texts)
            return None
        self.shown(p, q, told)
        askers, rounds = told
        if askers <= MOST:
            self.assertEqual(fewest, len(rounds), texts)
        elif fewest is not None:
            self.assertGreaterEqual(fewest, len(rounds), texts)
        return len(rounds)

    def shown(self, p, q, told):
        """Check that a pair has unlike grants in its last round alone."""
        self.assertEqual((type(told), len(told)), (tuple, 2))
        askers, rounds = told
        self.assertEqual((type(askers), type(rounds)), (int, tuple))
        self.assertGreaterEqual(askers, 1)
        for asking in rounds:
            self.assertEqual(asking, tuple(sorted(set(asking) & set(range(askers)))))
        for way in (slow_play, lambda rule, *rest: (play(rule, *rest).grants,)):
            mine, other = way(p, askers, rounds)[0], way(q, askers, rounds)[0]
            self.assertEqual(mine[:-1], other[:-1])
            self.assertNotEqual(mine[-1], other[-1])


class ExamplesTest(unittest.TestCase):
    def test_the_document(self):
        fair, fixed, twin = Rule.read(FAIR), Rule.read(FIXED), Rule.read(TWIN)
        self.assertEqual((alike(fair, twin), kin(twin)), (True, (("one", "two"),)))
        self.assertEqual(str(merged(twin)).split("\n"), ["first one", "one past on one", "one all on one"])
        self.assertEqual(len(least_parting(fair, fixed)[1]), 2)
        self.assertEqual(fair(2, [[0], [0, 1]]), ((0,), (1,)))
        self.assertEqual(fixed(2, [[0], [0, 1]]), ((0,), (0,)))


class AlikeTest(ComparingCase):
    def test_a_rule_beside_itself(self):
        for rule in rules_of_the_tables():
            self.assertIs(alike(rule, rule), True)
            self.assertIs(alike(rule, Rule.read(str(rule))), True)
            self.assertIsNone(least_parting(rule, rule))

    def test_modes_renamed(self):
        for rule in rules_of_the_tables():
            other = rule
            for at, mode in enumerate(rule.modes):
                other = other.renamed(mode, "x" + "klmno"[at])
            self.assertNotEqual(other.first, rule.first)
            self.assertIsNone(self.parted(rule, other))

    def test_a_row_twice(self):
        for rule in rules_of_the_tables():
            for at, row in enumerate(rule.rows):
                other = Rule(rule.first, rule.rows[:at] + (row, row) + rule.rows[at + 1:])
                # What grants behind a row by `also` grants whom the row has granted.
                self.assertIsNone(least_parting(rule, other), str(other))

    def test_a_row_of_a_mode_that_never_comes(self):
        for rule in rules_of_the_tables():
            for line in ("zz all on zz", "zz keep home " + rule.first + " also"):
                other = Rule.read(str(rule) + "\n" + line)
                self.assertIs(alike(rule, other), True)
                self.assertIs(alike(other, rule), True)

    def test_a_rule_without_rows(self):
        self.assertIs(alike(Rule("run"), Rule("a")), True)
        self.assertEqual(least_parting(Rule("run"), Rule.read(FAIR)), (1, ((0,),)))
        self.assertIs(alike(Rule("run"), Rule.read("first run\nrun keep on run\nrun under home a also")), True)

    def test_no_row_can_be_done(self):
        rule = Rule.read("first a\nb all on a")
        self.assertIs(alike(rule, Rule("run")), True)
        self.assertIs(alike(rule + Rule.read("first a\na under stay b"), Rule("b")), True)

    def test_rules_of_the_document(self):
        rules = [Rule.read(text) for text in (FAIR, FIXED, BLIND, DOUBLE, WEIGHTED, TWIN, LOCK, FULL, LATE, STAIRS)]
        for p, q in product(rules, rules):
            same = p == q or {str(p), str(q)} == {FAIR, TWIN}
            self.assertIs(self.parted(p, q) is None, same)

    def test_the_pointer_is_no_grant(self):
        # The one pointer goes where the other one stays, but `all` does not mind it.
        p = Rule.read("first a\na all on b\nb all stay a")
        self.assertIsNone(self.parted(p, Rule.read("first a\na all home a")))
        self.assertIsNone(self.parted(Rule.read("first a\na at home a"), Rule.read("first a\na past home a")))
        self.assertEqual(self.parted(Rule.read("first a\na at on a"), Rule.read("first a\na past on a")), 2)

    def test_one_pointer_is_at_home(self):
        p = Rule.read("first a\na all on b\nb at on c\nc under on c")
        q = Rule.read("first a\na all home b\nb past on c\nc under on c")
        self.assertEqual(self.parted(p, q), 2)
        q = Rule.read("first a\na all home b\nb all on c\nc keep on c")
        self.assertEqual(self.parted(p, q), 2)
        p = Rule.read("first a\na all on b\nb all on b")
        self.assertIsNone(self.parted(p, Rule.read("first a\na all home b\nb past stay b")))

    def test_two_pointers_in_one_part(self):
        # Both rules grant the first asker between the two pointers, and then they point at the same one.
        p = Rule.read("first a\na all on b\nb past stay c\nc past on d\nd past on d\nd all on d")
        q = Rule.read("first a\na all on b\nb past on c\nc under on d\nc past on d\nd past on d\nd all on d")
        self.assertEqual(self.parted(p, q), 3)
        q = Rule.read("first a\na all on b\nb past on c\nc all on d\nd past on d\nd all on d")
        self.assertEqual(self.parted(p, q), 3)

    def test_also(self):
        double = Rule.read(DOUBLE)
        self.assertEqual(self.parted(double, with_other_row(double, 1, "run", "past", "on", "run")), 2)
        self.assertEqual(self.parted(double, Rule.read(DOUBLE + " also")), 2)
        self.assertIsNone(self.parted(double, Rule.read(DOUBLE + "\nrun past stay run also")))
        fair = Rule.read(FAIR)
        self.assertEqual(self.parted(fair, Rule.read(FAIR + " also")), 2)
        self.assertIsNone(self.parted(fair, with_other_row(fair, 0, "run", "past", "on", "run", True)))
        self.assertIsNone(self.parted(fair, Rule.read(FAIR + "\nrun past home run also")))

    def test_one_row_out(self):
        for rule in rules_of_the_tables():
            for at in range(len(rule)):
                self.parted(rule, rule.without(at))

    def test_one_pick_or_move_otherwise(self):
        for rule in [Rule.read(text) for text in (FAIR, WEIGHTED, DOUBLE, LATE, STAIRS)]:
            for at, row in enumerate(rule.rows):
                for pick in PICKS:
                    self.parted(rule, with_other_row(rule, at, row.mode, pick, row.move, row.then, row.also))
                for move in MOVES:
                    self.parted(rule, with_other_row(rule, at, row.mode, row.pick, move, row.then, row.also))

    def test_rules_by_chance(self):
        chance = random.Random(21)
        found = []
        for rule in random_rules(120, 21):
            if len(rule):
                for _ in range(4):
                    found.append(self.parted(rule, changed(rule, chance)))
        # Both ends are among them.
        self.assertIn(None, found)
        self.assertGreater(max(rounds for rounds in found if rounds), 4)

    def test_unlike_rules_by_chance(self):
        rules = random_rules(80, 22)
        for p, q in zip(rules, rules[1:]):
            self.parted(p, q)

    def test_it_is_an_equivalence(self):
        rules = random_rules(25, 23) + [Rule.read(text) for text in (FAIR, TWIN, LOCK, "first run", "first b\nb keep on b")]
        near = {(at, to): alike(rules[at], rules[to]) for at, to in product(range(len(rules)), repeat=2)}
        for one, two in near:
            self.assertIs(near[one, two], near[two, one])
            for third in range(len(rules)):
                if near[one, two]:
                    self.assertIs(near[one, third], near[two, third])


class LeastPartingTest(ComparingCase):
    def test_the_fewest_rounds(self):
        fair = Rule.read(FAIR)
        for text, rounds in ((FIXED, 2), (BLIND, 2), ("first run", 1), (LOCK, 2), (WEIGHTED, 2),
                             (FAIR.replace("past on", "at on"), 2), (FAIR + "\nrun under on run also", 2)):
            self.assertEqual(self.parted(fair, Rule.read(text)), rounds, text)

    def test_behind_many_rounds(self):
        modes = "abcdefgh"
        rows = [Row(mode, "past", "on", then) for mode, then in zip(modes, modes[1:])]
        p = Rule("a", rows + [Row("h", "all", "on", "a")])
        q = Rule("a", rows + [Row("h", "past", "on", "a")])
        askers, rounds = least_parting(p, q)
        self.shown(p, q, (askers, rounds))
        # Each of eight rounds ahead needs an asker past the others.
        self.assertEqual((len(rounds), askers >= 7), (8, True))

    def test_a_great_number_of_askers(self):
        names = [one + two for one, two in product("abcdefgh", "abcde")]
        rows = [Row(mode, "past", "on", then) for mode, then in zip(names, names[1:])]
        p = Rule("aa", rows + [Row("he", "under", "on", "aa")])
        q = Rule("aa", rows + [Row("he", "under", "on", "aa"), Row("he", "keep", "on", "aa")])
        told = least_parting(p, q)
        self.assertEqual((len(told[1]), told[0] >= 39), (40, True))
        self.shown(p, q, told)
        self.assertIs(alike(p, q), False)
        # What was returned may be passed on.
        self.assertEqual(play(p, told[0] + 7, told[1]).grants, p(*told))

    def test_it_may_need_askers_between(self):
        p = Rule.read("first a\na all on b\nb past on c\nb all on b\nc all stay d\nd past on a")
        q = Rule.read("first a\na all on b\nb past stay c\nb all on b\nc all stay d\nd past on a")
        told = least_parting(p, q)
        self.assertGreaterEqual(told[0], 3)
        self.assertEqual(self.parted(p, q), 4)

    def test_one_pointer_stays_behind(self):
        # By the one rule the pointer stays where both were at first; by the other one it goes on twice.
        for still, step in (("all stay", "all on"), ("all stay", "all home")):
            p = Rule.read(f"first a\na all on b\nb {still} c\nc {still} d\nd keep on d")
            q = Rule.read(f"first a\na all on b\nb {step} c\nc {step} d")
            self.assertEqual((self.parted(p, q), self.parted(q, p)), (4, 4))

    def test_pointers_far_in_the_line(self):
        names = "abcdefghijklmnopqr"
        for many in range(2, 16):
            climb = [Row(mode, "past", "on", then) for mode, then in zip(names[:many], names[1:])]
            for last in ("at", "keep", "past"):
                ends = [[Row(names[many], "past", move, "y"), Row("y", last, "on", "z")] for move in ("stay", "on")]
                p, q = [Rule("a", climb + end) for end in ends]
                for told in (least_parting(p, q), least_parting(q, p)):
                    self.assertEqual((len(told[1]), told[0] >= many), (many + 2, True))
                    self.shown(p, q, told)

    def test_the_rounds_are_not_longer_than_needed_by_the_slow_way(self):
        chance = random.Random(24)
        for rule in random_rules(40, 24):
            if len(rule) > 2:
                other = changed(changed(rule, chance), chance)
                told = least_parting(rule, other)
                if told is not None and told[0] <= 5:
                    fewest = [slow_parting(rule, other, askers, starts_of(rule, other)) for askers in range(1, 6)]
                    self.assertEqual(min(rounds for rounds in fewest if rounds is not None), len(told[1]))


class NeedlessTest(ComparingCase):
    def test_by_alike(self):
        for rule in rules_of_the_tables() + random_rules(100, 25):
            told = needless(rule)
            self.assertIs(type(told), tuple)
            self.assertEqual(told, tuple(at for at in range(len(rule)) if alike(rule, rule.without(at))))

    def test_by_the_slow_way(self):
        for rule in random_rules(40, 26) + [Rule.read(text) for text in (FAIR, DOUBLE, TWIN, LOCK)]:
            for at in range(len(rule)):
                other = rule.without(at)
                found = [slow_parting(rule, other, askers, starts_of(rule, other)) for askers in range(1, MOST + 1)]
                self.assertIs(at in needless(rule), found == [None] * MOST, str(rule))

    def test_rules_that_need_all(self):
        for text in (FAIR, FIXED, BLIND, WEIGHTED, TWIN, LOCK, "first run"):
            self.assertEqual(needless(Rule.read(text)), ())

    def test_some_rows(self):
        for text, numbers in ((FAIR + "\nrun all home run", (2,)), ("first run\nrun all on run\nrun past on run", (1,)),
                              (FAIR + "\nb all on run", (2,)), ("first run\nrun keep on run\nrun under on run", (0, 1)),
                              (BLIND + "\nrun past home run also\nrun all on run", (1,)),
                              ("first run\nrun at home run\nrun past on run\nrun all stay run", (1, 2)),
                              ("first b\na all on b", (0,))):
            self.assertEqual(needless(Rule.read(text)), numbers, text)

    def test_each_alone(self):
        # Without either of the two same rows the rule is alike, without both it is not.
        rule = Rule.read("first run\nrun all stay run\nrun all stay run")
        self.assertEqual(needless(rule), (0, 1))
        self.assertIs(alike(rule, rule.without(0).without(0)), False)


class KinTest(ComparingCase):
    def test_rules_that_are_known(self):
        for text, classes in ((TWIN, (("one", "two"),)), (WEIGHTED, (("one",), ("two",))), (FAIR, (("run",),)),
                              (FULL, (("a",), ("b",), ("c",), ("d",))), ("first run", (("run",),)),
                              ("first b\nb all on a\na all on b", (("a", "b"),)),
                              ("first a\na all on b\nb all on c\nc all home a", (("a", "b", "c"),)),
                              ("first a\na all on b\nb all on c\nc past on a\nc all on a", (("a",), ("b",), ("c",)))):
            self.assertEqual(kin(Rule.read(text)), classes, text)

    def test_modes_that_never_come_about(self):
        rule = Rule.read(FAIR + "\nb past on run\nb all on b\nd keep on d\nc under on b")
        self.assertEqual(kin(rule), (("b", "run"), ("c",), ("d",)))
        self.assertEqual(kin(rule + Rule.read("first x\nx past on b\nx all on run")), (("b", "run", "x"), ("c",), ("d",)))

    def test_modes_without_rows(self):
        rule = Rule.read("first a\na all on c\nb past on z")
        self.assertEqual(kin(rule), (("a",), ("b",), ("c", "z")))
        # A row that fits nowhere is no row.
        self.assertEqual(kin(Rule.read("first a\nb keep stay c")), (("a", "c"), ("b",)))

    def test_alike_at_home_alone(self):
        rule = Rule.read("first a\na past home a\nb at home b")
        self.assertEqual(kin(rule), (("a",), ("b",)))
        self.assertIs(alike(rule, Rule("b", rule.rows)), True)

    def test_rows_that_together_are_a_region(self):
        rule = Rule.read("first a\na under home c\na keep home c\na past home c\n"
                         "b under home c\nb at home c\nc all on d\nd past home a")
        self.assertEqual(kin(rule), (("a", "b"), ("c",), ("d",)))
        rule = Rule.read("first a\na under home c\na keep home c\na past on c\nb all home c\nc at home b")
        self.assertEqual(kin(rule), (("a",), ("b",), ("c",)))

    def test_the_same_pointer_for_both(self):
        # By both modes the pointed asker is granted; the pointers need not be where they can come about.
        rule = Rule.read("first a\na all home a\nb keep on b\nc keep on b\nd keep stay c")
        self.assertEqual(kin(rule), (("a",), ("b", "c", "d")))

    def test_classes_are_ascending(self):
        rule = Rule.read("first z\nz all on z\nm keep on m\nb all on z\na keep on m\nx under on a")
        self.assertEqual(kin(rule), (("a", "m"), ("b", "z"), ("x",)))
        for rule in rules_of_the_tables() + random_rules(80, 27):
            told = kin(rule)
            self.assertEqual(sorted(mode for mates in told for mode in mates), list(rule.modes))
            self.assertEqual([list(mates) for mates in told], sorted(sorted(mates) for mates in told))
            self.assertEqual({type(told)} | {type(mates) for mates in told}, {tuple})

    def test_the_slow_way(self):
        for rule in rules_of_the_tables() + random_rules(80, 28):
            self.assertEqual(kin(rule), slow_kin(rule, MOST), str(rule))

    def test_kin_modes_begin_alike(self):
        for rule in random_rules(60, 29):
            for mates in kin(rule):
                for mode in mates:
                    self.assertIs(alike(Rule(mates[0], rule.rows), Rule(mode, rule.rows)), True)


class MergedTest(ComparingCase):
    def test_rules_that_are_known(self):
        for text, wanted in ((TWIN, "first one\none past on one\none all on one"), (FAIR, FAIR), (WEIGHTED, WEIGHTED),
                             (FULL, FULL), ("first run", "first run"), ("first c\na all on b", "first b\na all on b"),
                             ("first b\nb all on a\na all on b", "first a\na all on a")):
            self.assertEqual(str(merged(Rule.read(text))), wanted)

    def test_the_rows_that_are_left(self):
        rule = Rule.read("first c\nc past on b\nb past on c\nc all on c also\na keep home b\nb all on b also")
        self.assertEqual(str(merged(rule)), "first b\nb past on b\na keep home b\nb all on b also")
        self.assertEqual(str(merged(Rule.read("first a\na all on c\nb keep on c\nd all on c"))),
                         "first a\na all on c\nb keep on c")

    def test_by_the_classes(self):
        for rule in rules_of_the_tables() + random_rules(100, 30):
            chief = {mode: mates[0] for mates in kin(rule) for mode in mates}
            lines = ["first " + chief[rule.first]]
            for row in rule.rows:
                if row.mode in chief.values():
                    lines.append(str(Row(row.mode, row.pick, row.move, chief[row.then], row.also)))
            told = merged(rule)
            self.assertEqual((type(told), str(told).split("\n")), (Rule, lines))

    def test_it_is_alike(self):
        for rule in rules_of_the_tables() + random_rules(60, 31):
            self.assertIsNone(self.parted(rule, merged(rule)))

    def test_nothing_more_to_merge(self):
        for rule in random_rules(60, 32):
            told = merged(rule)
            # A mode without rows may be named no more.
            for mates in kin(told):
                self.assertEqual(len(mates), 1, str(rule))
            self.assertEqual(merged(told), told)


class LimitsTest(ComparingCase):
    def test_four_modes_and_twelve_rows(self):
        full = Rule.read(FULL)
        self.assertEqual((len(full), len(full.modes)), (12, 4))
        other = full
        for mode, name in zip("abcd", "wxyz"):
            other = other.renamed(mode, name)
        self.assertIs(alike(full, other), True)
        both = full + other
        self.assertEqual(kin(both), (("a", "w"), ("b", "x"), ("c", "y"), ("d", "z")))
        self.assertEqual((merged(both), needless(both)), (full, tuple(range(12, 24))))

    def test_rules_that_were_added(self):
        rule = Rule.read(FULL)
        for at in range(6):
            more = Rule.read(FULL)
            for mode in "abcd":
                more = more.renamed(mode, mode + "uvwxyz"[at])
            rule = rule + more
        self.assertEqual((len(rule), len(kin(rule)), merged(rule)), (84, 4, Rule.read(FULL)))
        self.assertEqual(needless(rule), tuple(range(12, 84)))


class ConventionsTest(unittest.TestCase):
    def test_names(self):
        wanted = {"alike": "(p, q)", "least_parting": "(p, q)", "needless": "(rule)", "kin": "(rule)",
                  "merged": "(rule)"}
        for name, parameters in wanted.items():
            function = getattr(comparing, name)
            self.assertEqual((str(inspect.signature(function)), function.__module__),
                             (parameters, "lineturns.comparing"))

    def test_arguments_by_name(self):
        fair, twin = Rule.read(FAIR), Rule.read(TWIN)
        self.assertEqual((alike(q=twin, p=fair), least_parting(q=fair, p=twin)), (True, None))
        self.assertEqual((needless(rule=fair), kin(rule=fair)), ((), (("run",),)))
        self.assertIs(alike(merged(rule=twin), fair), True)

    def test_the_same_call_returns_an_equal_result(self):
        rules = rules_of_the_tables()
        first = [(least_parting(p, q), needless(p), kin(p), merged(q)) for p, q in zip(rules, rules[1:])]
        again = [(least_parting(p, q), needless(p), kin(p), merged(q)) for p, q in zip(rules, rules[1:])][::-1]
        self.assertEqual(first, again[::-1])

    def test_rules_do_not_change(self):
        for text, _ in GROWTHS + FAULTY:
            rule = Rule.read(text)
            alike(rule, Rule.read(FAIR)), needless(rule), kin(rule), merged(rule)
            self.assertEqual((str(rule), rule.modes), (text, Rule.read(text).modes))


if __name__ == "__main__":
    unittest.main()
