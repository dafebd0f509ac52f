import copy
import inspect
import random
import unittest
from itertools import product

from lineturns import levels as module
from lineturns.errors import InvalidRound
from lineturns.levels import levels, play_levels
from lineturns.rounds import play
from lineturns.rows import Row
from lineturns.rules import Rule
from lineturns.waiting import waits
from samples import (
    BLIND, DOUBLE, FAIR, FAULTY, FIXED, FULL, GROWTHS, LOCK, STAIRS, TWIN, WEIGHTED, all_rounds, any_values,
)
from slow import SlowLevels, random_rules

RULES = (FAIR, FIXED, BLIND, DOUBLE, WEIGHTED, TWIN, LOCK)
# The first group is granted, and then those past the pointed one and, by `also`, the first one under it.
BOTH = "first run\nrun past on run\nrun under on run also\nrun all on run also"


def pairs_of(groups, size):
    return list(product(range(groups), range(size)))


def rounds_by_chance(chance, groups, size, many):
    """Rounds of pairs as lists and tuples, in any order, some of them empty."""
    pairs = pairs_of(groups, size)
    rounds = [chance.sample(pairs, chance.randrange(len(pairs) + 1)) for _ in range(many)]
    return [tuple(asking) if chance.randrange(2) else asking for asking in rounds]


def wrong_at(rounds, groups=2, size=3):
    """What the error keeps, or None without one."""
    try:
        play_levels(Rule.read(FAIR), Rule.read(FAIR), groups, size, rounds)
    except InvalidRound as error:
        return error.at
    return None


class ExamplesTest(unittest.TestCase):
    def test_the_document(self):
        fair, fixed = Rule.read(FAIR), Rule.read(FIXED)
        rounds = [[(0, 1), (1, 0), (1, 1)], [(0, 1), (1, 1)], [(0, 0), (0, 1)]]
        self.assertEqual(play_levels(fair, fixed, 2, 2, rounds), (((0, 1),), ((1, 1),), ((0, 0),)))
        self.assertEqual((levels(fair, fair, 3, 2), levels(fair, fixed, 3, 1), levels(fair, fixed, 3, 2)), (5, 2, None))


class PlayLevelsTest(unittest.TestCase):
    def test_no_rounds(self):
        for rounds in ([], ()):
            self.assertEqual(play_levels(Rule.read(FAIR), Rule.read(FAIR), 2, 2, rounds), ())

    def test_empty_rounds(self):
        fair = Rule.read(FAIR)
        self.assertEqual(play_levels(fair, fair, 2, 2, [[], (), []]), ((), (), ()))
        self.assertEqual(play_levels(fair, fair, 2, 2, [[(1, 1)], (), [(0, 0), (1, 1)], [], [(0, 0), (1, 0)]]),
                         (((1, 1),), (), ((0, 0),), (), ((1, 0),)))

    def test_rounds_in_any_order(self):
        fair = Rule.read(FAIR)
        wanted = play_levels(fair, fair, 2, 3, [((0, 1), (0, 2), (1, 0)), ((0, 0), (0, 2), (1, 1), (1, 2))])
        self.assertEqual(wanted, (((0, 1),), ((1, 1),)))
        for one, two in (([(1, 0), (0, 2), (0, 1)], [(1, 2), (0, 2), (1, 1), (0, 0)]),
                         (((0, 2), (1, 0), (0, 1)), [(0, 2), (0, 0), (1, 2), (1, 1)])):
            self.assertEqual(play_levels(fair, fair, 2, 3, [one, two]), wanted)
            self.assertEqual(play_levels(fair, fair, 2, 3, (one, two)), wanted)

    def test_each_group_has_a_mode_and_a_pointer_of_its_own(self):
        fair, twice = Rule.read(FAIR), Rule.read("first a\na all on b\nb past on a\nb all on b")
        everybody = pairs_of(2, 3)
        self.assertEqual(play_levels(fair, fair, 2, 3, [everybody] * 7),
                         (((0, 0),), ((1, 0),), ((0, 1),), ((1, 1),), ((0, 2),), ((1, 2),), ((0, 0),)))
        self.assertEqual(play_levels(fair, twice, 2, 3, [everybody] * 6),
                         (((0, 0),), ((1, 0),), ((0, 1),), ((1, 1),), ((0, 0),), ((1, 0),)))

    def test_groups_that_are_not_granted_do_nothing(self):
        fixed, fair = Rule.read(FIXED), Rule.read(FAIR)
        told = play_levels(fixed, fair, 2, 3, [[(0, 0), (1, 0)], [(1, 0), (1, 1)], [(0, 2), (1, 2)], [(1, 0), (1, 1)]])
        self.assertEqual(told, (((0, 0),), ((1, 0),), ((0, 2),), ((1, 1),)))

    def test_several_groups_in_a_round(self):
        top, fair = Rule.read(BOTH), Rule.read(FAIR)
        told = play_levels(top, fair, 3, 2, [[(1, 1)], [(2, 0), (2, 1), (0, 0)], pairs_of(3, 2), pairs_of(3, 2)])
        self.assertEqual(told, (((1, 1),), ((0, 0), (2, 0)), ((0, 1),), ((0, 0), (1, 0))))

    def test_several_askers_of_a_group(self):
        double = Rule.read(DOUBLE)
        everybody = pairs_of(2, 3)
        self.assertEqual(play_levels(double, double, 2, 3, [everybody] * 3),
                         (((0, 0),), ((0, 0), (0, 1), (1, 0)), ((0, 0), (0, 1), (1, 0), (1, 1))))
        self.assertEqual(play_levels(Rule.read(FIXED), double, 2, 3, [[(1, 2)], [(1, 1), (1, 2)], [(1, 2), (1, 1)]]),
                         (((1, 2),), ((1, 2),), ((1, 2),)))

    def test_a_granted_group_may_grant_nobody(self):
        blind, fair = Rule.read(BLIND), Rule.read(FAIR)
        self.assertEqual(play_levels(fair, blind, 2, 2, [[(0, 1)], [(0, 0)], [(0, 1), (1, 1)]]),
                         (((0, 1),), (), ((1, 1),)))
        self.assertEqual(play_levels(fair, Rule("run"), 2, 2, [[(0, 1), (1, 0)], [(1, 0)]]), ((), ()))
        self.assertEqual(play_levels(blind, fair, 2, 2, [[(1, 1)], [(0, 0), (1, 1)]]), (((1, 1),), ()))

    def test_one_of_each(self):
        for text in RULES:
            rule, fair = Rule.read(text), Rule.read(FAIR)
            for askers in (1, 2, 3):
                rounds = [asking for asking in all_rounds(askers)] * 2
                grants = play(rule, askers, rounds).grants
                inside = [[(0, asker) for asker in asking] for asking in rounds]
                self.assertEqual(play_levels(fair, rule, 1, askers, inside),
                                 tuple(tuple((0, asker) for asker in granted) for granted in grants))
                beside = [[(asker, 0) for asker in asking] for asking in rounds]
                self.assertEqual(play_levels(rule, fair, askers, 1, beside),
                                 tuple(tuple((asker, 0) for asker in granted) for granted in grants))

    def test_the_slow_way(self):
        chance = random.Random(41)
        rules = random_rules(60, 41) + [Rule.read(text) for text in RULES]
        for top, leaf in zip(rules, rules[::-1]):
            for groups, size in ((2, 2), (1, 3), (3, 2)):
                slow = SlowLevels(top, leaf, groups, size, ())
                rounds = rounds_by_chance(chance, groups, size, 12)
                self.assertEqual(play_levels(top, leaf, groups, size, rounds), slow.play(rounds))

    def test_more_groups_and_askers(self):
        chance = random.Random(45)
        for top, leaf in product([Rule.read(text) for text in (FAIR, FULL, FIXED)], repeat=2):
            for groups, size in ((20, 2), (2, 20)):
                rounds = [chance.sample(pairs_of(groups, size), 3) for _ in range(30)]
                self.assertEqual(play_levels(top, leaf, groups, size, rounds),
                                 SlowLevels(top, leaf, groups, size, ()).play(rounds))

    def test_eight_groups_of_eight(self):
        chance = random.Random(42)
        rules = [Rule.read(text) for text in (FULL, FAIR, DOUBLE, BOTH, STAIRS)]
        for top, leaf in product(rules, rules):
            rounds = rounds_by_chance(chance, 8, 8, 40)
            told = play_levels(top, leaf, 8, 8, rounds)
            self.assertEqual(told, SlowLevels(top, leaf, 8, 8, ()).play(rounds))
            for asking, granted in zip(rounds, told):
                self.assertEqual((type(granted), granted), (tuple, tuple(sorted(set(granted) & set(asking)))))


class WrongRoundsTest(unittest.TestCase):
    def test_rounds_that_are_no_sequence(self):
        for value in any_values() + [{}, "", {(0, 0)}]:
            if not isinstance(value, (list, tuple)):
                self.assertEqual(wrong_at(value), 0, value)

    def test_right_rounds(self):
        for rounds in ([], [[]], [()], ([(0, 0)], ((1, 2), (0, 2))), [[pair] for pair in pairs_of(2, 3)]):
            self.assertIsNone(wrong_at(rounds))

    def test_pairs_out_of_the_bounds(self):
        for pair in ((2, 0), (0, 3), (-1, 0), (0, -1), (10 ** 30, 0), (1, 10 ** 30), (3, 2)):
            self.assertEqual(wrong_at([[(0, 0), pair]]), 0, pair)
            self.assertEqual(wrong_at([[(0, 0)], [], (pair,), [pair]]), 2, pair)
        self.assertEqual((wrong_at([[(1, 2)]]), wrong_at([[(1, 2)]], 3, 2), wrong_at([[(2, 1)]], 3, 2)), (None, 0, None))

    def test_a_pair_twice(self):
        self.assertEqual(wrong_at([[(0, 0)], [(1, 1), (0, 1), (1, 1)]]), 1)
        self.assertEqual(wrong_at([((0, 2), (0, 2))]), 0)
        self.assertIsNone(wrong_at([[(0, 2)], [(0, 2)]]))

    def test_what_is_no_pair(self):
        for value in ([0, 0], [1, 1], (0,), (0, 0, 0), (), 0, 1, None, True, "00", "", {0: 0, 1: 1}, ((0, 0),), [(0, 0)],
                      (0, "0"), ("a", "b"), (None, 0), ((0,), 0), Rule("run"), Row("a", "all", "on", "a")):
            self.assertEqual(wrong_at([[(0, 0)], [(1, 1), value]]), 1, value)
            self.assertEqual(wrong_at([[value]]), 0, value)

    def test_bools_are_no_numbers(self):
        for pair in ((True, 0), (0, True), (False, False), (1, False)):
            self.assertEqual(wrong_at([[], [pair]]), 1, pair)

    def test_any_value_as_a_round(self):
        for value in any_values() + ["", {}, {(0, 0)}, [[0, 0]], (0, 0), [(0, 0), None]]:
            right = isinstance(value, (list, tuple)) and len(value) == 0
            for ahead in ([], [[(0, 0)]], [(), [(1, 2), (0, 1)], []]):
                wanted = None if right else len(ahead)
                self.assertEqual(wrong_at(ahead + [value]), wanted, value)
                self.assertEqual(wrong_at(tuple(ahead) + (value, [(0, 0)])), wanted, value)

    def test_the_first_wrong_one_is_named(self):
        self.assertEqual(wrong_at([[(0, 0)], [(2, 0)], None]), 1)
        self.assertEqual(wrong_at([[(0, 0)]] * 39 + [[(0, 0), (0, 0)]]), 39)


class LevelsTest(unittest.TestCase):
    def test_rules_that_are_known(self):
        fair, weighted = Rule.read(FAIR), Rule.read(WEIGHTED)
        for groups, size in product(range(1, 6), repeat=2):
            # The group is granted each time behind all others, and the asker behind all others of it.
            self.assertEqual(levels(fair, fair, groups, size), groups * size - 1)
            self.assertEqual(levels(Rule.read(TWIN), fair, groups, size), groups * size - 1)
        self.assertEqual([levels(fair, weighted, 1, size) for size in range(1, 6)], [0, 2, 4, 6, 8])
        self.assertEqual([levels(weighted, fair, groups, 1) for groups in range(1, 6)], [0, 2, 4, 6, 8])
        self.assertIs(type(levels(fair, weighted, 3, 3)), int)

    def test_none(self):
        fair, fixed, blind = Rule.read(FAIR), Rule.read(FIXED), Rule.read(BLIND)
        self.assertEqual((levels(fixed, fair, 1, 5), levels(fixed, fair, 2, 1)), (4, None))
        self.assertEqual((levels(fair, fixed, 5, 1), levels(fair, fixed, 1, 2)), (4, None))
        self.assertEqual((levels(blind, fair, 1, 1), levels(fair, blind, 1, 1)), (None, None))
        self.assertEqual((levels(Rule("run"), fair, 2, 2), levels(fair, Rule("run"), 2, 2)), (None, None))

    def test_one_group_or_groups_of_one(self):
        fair = Rule.read(FAIR)
        for text, _ in GROWTHS + FAULTY:
            rule = Rule.read(text)
            for askers in range(1, 6):
                self.assertEqual(levels(fair, rule, 1, askers), waits(rule, askers), text)
                self.assertEqual(levels(rule, fair, askers, 1), waits(rule, askers), text)

    def test_none_just_if_one_of_both_waits_for_ever(self):
        rules = [Rule.read(text) for text, _ in GROWTHS[:8] + FAULTY]
        for top, leaf in product(rules, rules):
            for groups, size in ((1, 1), (2, 2), (3, 4)):
                ever = waits(top, groups) is None or waits(leaf, size) is None
                self.assertIs(levels(top, leaf, groups, size) is None, ever)

    def test_the_slow_way(self):
        rules = random_rules(40, 43) + [Rule.read(text) for text in RULES]
        for top, leaf in zip(rules, rules[::-1]):
            for groups, size in ((1, 1), (1, 2), (2, 1), (3, 1), (1, 3)):
                self.same(top, leaf, groups, size)

    def test_the_slow_way_of_rules_without_the_fault(self):
        rules = [Rule.read(text) for text in (FAIR, TWIN, WEIGHTED, BOTH, GROWTHS[4][0], GROWTHS[5][0])]
        for top, leaf in product(rules, rules):
            self.same(top, leaf, 2, 2)

    def test_the_slow_way_of_three(self):
        for top, leaf in ((FAIR, FAIR), (FAIR, GROWTHS[5][0])):
            self.same(Rule.read(top), Rule.read(leaf), 3, 2)
            self.same(Rule.read(top), Rule.read(leaf), 2, 3)

    def same(self, top, leaf, groups, size):
        slow = SlowLevels(top, leaf, groups, size, all_rounds(groups * size))
        self.assertEqual(levels(top, leaf, groups, size), slow.waits(), (str(top), str(leaf), groups, size))

    def test_waits_at_the_beginning_alone(self):
        # Later on the rule is fair.
        late = Rule.read("first a\na all on b\nb all on c\nc all on d\nd past on d\nd all on d")
        fair = Rule.read(FAIR)
        self.assertEqual([levels(fair, late, 1, size) for size in (1, 2, 5)], [0, 3, 6])
        self.assertEqual([levels(late, fair, groups, 1) for groups in (1, 2, 5)], [0, 3, 6])
        for top, leaf in ((late, fair), (fair, late), (late, late)):
            for groups, size in ((2, 2), (1, 3), (3, 1)):
                self.same(top, leaf, groups, size)

    def test_what_comes_about_in_both_together(self):
        once = "first b\na past on a\na all on a\nb past home a\nb all on b"
        # The group is granted only if somebody in it asks, and then its rule does something.
        turns = "first a\na past home b\na all on b\nb past on b\nb all on b"
        home = "first run\nrun past on run\nrun all home run"
        for top, leaf, groups, size, rounds in ((once, FAIR, 2, 2, 4), (FAIR, once, 1, 2, 2), (once, FAIR, 2, 1, 2),
                                                (home, turns, 2, 2, 7), (home, turns, 1, 2, 2)):
            top, leaf = Rule.read(top), Rule.read(leaf)
            self.assertEqual(levels(top, leaf, groups, size), rounds)
            self.same(top, leaf, groups, size)

    def test_more_askers_wait_no_less(self):
        fair, full = Rule.read(FAIR), Rule.read(FULL)
        for top, leaf in ((fair, full), (full, fair), (full, full)):
            for size in range(1, 6):
                told = [levels(top, leaf, groups, size) for groups in range(1, 6)]
                self.assertEqual(told, sorted(told))

    def test_five_groups_of_five(self):
        rules = [Rule.read(text) for text, _ in GROWTHS]
        for top, leaf in zip(rules, rules[1:] + rules[:1]):
            told = levels(top, leaf, 5, 5)
            self.assertGreaterEqual(told, levels(top, leaf, 4, 5))
            self.assertGreaterEqual(told, max(waits(top, 5), waits(leaf, 5)))
        self.assertEqual(levels(Rule.read(FULL), Rule.read(FULL), 5, 5), 128)
        self.assertIsNone(levels(Rule.read(FULL), Rule.read(FIXED), 5, 5))


class ConventionsTest(unittest.TestCase):
    def test_names(self):
        wanted = {"play_levels": "(top, leaf, groups, size, rounds)", "levels": "(top, leaf, groups, size)"}
        for name, parameters in wanted.items():
            function = getattr(module, name)
            self.assertEqual((str(inspect.signature(function)), function.__module__), (parameters, "lineturns.levels"))

    def test_arguments_by_name(self):
        fair, fixed = Rule.read(FAIR), Rule.read(FIXED)
        self.assertEqual(levels(size=1, groups=3, leaf=fixed, top=fair), 2)
        self.assertEqual(play_levels(rounds=[[(1, 0)]], size=1, groups=2, leaf=fixed, top=fair), (((1, 0),),))

    def test_sequences_that_are_returned_are_tuples(self):
        told = play_levels(Rule.read(BOTH), Rule.read(FAIR), 2, 2, [[(0, 0)], [(1, 1), (0, 1)], []])
        kinds = {type(told)} | {type(granted) for granted in told} | {type(pair) for granted in told for pair in granted}
        self.assertEqual(kinds, {tuple})

    def test_arguments_are_not_changed(self):
        rounds = [[(1, 0), (0, 1)], ((1, 1), (0, 0)), []]
        before = copy.deepcopy(rounds)
        told = play_levels(Rule.read(FAIR), Rule.read(FAIR), 2, 2, rounds)
        self.assertEqual(rounds, before)
        rounds[0].append((0, 0))
        self.assertEqual(told, (((0, 1),), ((1, 1),), ()))

    def test_the_same_call_returns_an_equal_result(self):
        full, fair = Rule.read(FULL), Rule.read(FAIR)
        rounds = rounds_by_chance(random.Random(44), 3, 3, 10)
        first = (play_levels(full, fair, 3, 3, rounds), levels(full, fair, 3, 3))
        levels(fair, full, 2, 3), play_levels(fair, full, 3, 3, rounds)
        self.assertEqual((play_levels(full, fair, 3, 3, rounds), levels(full, fair, 3, 3)), first)
        self.assertEqual((str(full), str(fair)), (FULL, FAIR))


if __name__ == "__main__":
    unittest.main()
