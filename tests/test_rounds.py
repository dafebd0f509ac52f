import copy
import inspect
import unittest
from itertools import product

from lineturns.errors import InvalidRound
from lineturns.rounds import Played, play
from lineturns.rows import Row
from lineturns.rules import Rule
from samples import FAIR, FIXED, MOVES, PICKS, all_rounds, any_values, region, slow_play

# Regions of a line of five askers, for the pointer at home, at the first, a middle and the last asker.
REGIONS = {
    "keep": {None: (), 0: (0,), 2: (2,), 4: (4,)},
    "at": {None: (0, 1, 2, 3, 4), 0: (0, 1, 2, 3, 4), 2: (2, 3, 4), 4: (4,)},
    "past": {None: (0, 1, 2, 3, 4), 0: (1, 2, 3, 4), 2: (3, 4), 4: ()},
    "under": {None: (), 0: (), 2: (0, 1), 4: (0, 1, 2, 3)},
    "all": {None: (0, 1, 2, 3, 4), 0: (0, 1, 2, 3, 4), 2: (0, 1, 2, 3, 4), 4: (0, 1, 2, 3, 4)},
}


def rule_of(*lines):
    return Rule.read("\n".join(lines))


def pointed(pointer, *lines):
    """A rule and rounds, behind which the mode is `run` and the pointer at an asker or home."""
    if pointer is None:
        return rule_of("first run", *lines), []
    return rule_of("first set", "set all on run", *lines), [[pointer]]


def play_pointed(pointer, asking, *lines):
    """What a last round does: the grants, the mode and the pointer."""
    rule, rounds = pointed(pointer, *lines)
    played = play(rule, 5, rounds + [asking])
    return played.grants[-1], played.modes[-1], played.pointers[-1]


def told(played):
    return played.grants, played.done, played.modes, played.pointers, played.faults


def wrong_at(askers, rounds):
    """What the error keeps that these rounds raise, or None."""
    try:
        play(rule_of("first run", "run all on run"), askers, rounds)
    except InvalidRound as error:
        return error.at
    return None


class PickTest(unittest.TestCase):
    def test_regions(self):
        for pick, pointer in product(PICKS, (None, 0, 2, 4)):
            for asker in range(5):
                granted, _, _ = play_pointed(pointer, [asker], f"run {pick} stay run")
                wanted = (asker,) if asker in REGIONS[pick][pointer] else ()
                self.assertEqual(granted, wanted, (pick, pointer, asker))

    def test_the_least_in_the_region_is_granted(self):
        for pick, pointer, asking in product(PICKS, (None, 0, 2, 4), all_rounds(5)):
            granted, _, _ = play_pointed(pointer, asking, f"run {pick} stay run")
            there = [asker for asker in asking if asker in REGIONS[pick][pointer]]
            self.assertEqual(granted, tuple(there[:1]), (pick, pointer, asking))

    def test_the_second_way_to_play_has_the_same_regions(self):
        for pick, pointer in product(PICKS, (None, 0, 2, 4)):
            self.assertEqual(tuple(region(pick, pointer, 5)), REGIONS[pick][pointer])


class MoveTest(unittest.TestCase):
    def test_moves_from_home(self):
        for move, pointer in (("stay", None), ("on", 3), ("home", None)):
            self.assertEqual(play_pointed(None, [4, 3], f"run all {move} b"), ((3,), "b", pointer))

    def test_moves_from_a_pointed_asker(self):
        for move, pointer in (("stay", 2), ("on", 3), ("home", None)):
            self.assertEqual(play_pointed(2, [1, 4, 3], f"run past {move} b"), ((3,), "b", pointer))

    def test_moves_of_the_first_and_of_the_last_asker(self):
        for asker, move in product((0, 4), MOVES):
            wanted = {"stay": 2, "on": asker, "home": None}[move]
            self.assertEqual(play_pointed(2, [asker], f"run all {move} run"), ((asker,), "run", wanted))

    def test_on_at_the_pointed_asker_leaves_the_pointer(self):
        self.assertEqual(play_pointed(2, [2], "run keep on run"), ((2,), "run", 2))

    def test_the_pointer_may_go_down(self):
        self.assertEqual(play_pointed(2, [1, 0], "run under on run"), ((0,), "run", 0))

    def test_pointers_of_every_round(self):
        rule = rule_of("first a", "a all on b", "b all stay c", "c all home a")
        played = play(rule, 3, [[2], [0], [1], [1], [], [0, 2]])
        self.assertEqual(played.pointers, (None, 2, 2, None, 1, 1, 1))
        self.assertEqual(played.modes, ("a", "b", "c", "a", "b", "b", "c"))


class FitTest(unittest.TestCase):
    def test_the_first_row_that_fits_is_done(self):
        rule = rule_of("first run", "run past on run", "run all home b", "run all on c")
        played = play(rule, 3, [[1], [2], [0, 1], [0]])
        self.assertEqual(played.done, (0, 0, 1, None))
        self.assertEqual(played.grants, ((1,), (2,), (0,), ()))
        self.assertEqual(played.modes, ("run", "run", "run", "b", "b"))

    def test_rows_of_another_mode_do_not_fit(self):
        rule = rule_of("first b", "a all on a", "c all on c also", "b past on a", "c all home c also")
        played = play(rule, 2, [[1], [0]])
        self.assertEqual(told(played), (((1,), (0,)), (2, 0), ("b", "a", "a"), (None, 1, 0), ()))

    def test_no_row_fits(self):
        self.assertEqual(play_pointed(2, [2, 1], "run past home b", "b all home b"), ((), "run", 2))
        self.assertEqual(play_pointed(None, [2, 1], "run keep on b", "run under on b"), ((), "run", None))

    def test_nobody_asks(self):
        for pick, move in product(PICKS, MOVES):
            self.assertEqual(play_pointed(2, [], f"run {pick} {move} b"), ((), "run", 2))

    def test_a_rule_without_rows(self):
        played = play(Rule("run"), 2, [[0], [], (1, 0)])
        self.assertEqual(told(played), (((), (), ()), (None,) * 3, ("run",) * 4, (None,) * 4, ("none",)))

    def test_a_rule_whose_first_mode_has_no_row(self):
        played = play(Rule("b", [Row("a", "all", "on", "b")]), 2, [[0, 1]])
        self.assertEqual(told(played), (((),), (None,), ("b", "b"), (None, None), ("none",)))


class AlsoTest(unittest.TestCase):
    def test_rows_behind_the_done_one(self):
        first, second = "run under stay run", "run past on b"
        self.assertEqual(play_pointed(2, [1, 3], first, second + " also"), ((1, 3), "run", 2))
        self.assertEqual(play_pointed(2, [1, 3], first, second), ((1,), "run", 2))

    def test_left_out_false_and_true(self):
        for also, granted in (((), (0,)), ((False,), (0,)), ((True,), (0, 1))):
            rule = Rule("run", [Row("run", "all", "on", "run"), Row("run", "past", "on", "run", *also)])
            self.assertEqual(play(rule, 2, [[0], [1, 0]]).grants[1], granted)

    def test_also_of_the_done_row_changes_nothing(self):
        for tail in ("", " also"):
            granted = play_pointed(2, [1, 3], "run past on b" + tail, "run under on c")
            self.assertEqual(granted, ((3,), "b", 3))

    def test_rows_ahead_of_the_done_one_do_not_fit(self):
        lines = ("run keep home c also", "run past on b", "run under home c also")
        self.assertEqual(play_pointed(2, [4, 1], *lines), ((1, 4), "b", 4))

    def test_they_fit_by_mode_and_pointer_ahead_of_the_round(self):
        lines = ("run past on b", "run keep stay run also", "b all stay b also", "b keep stay b also")
        self.assertEqual(play_pointed(2, [3, 4], *lines), ((3,), "b", 3))
        self.assertEqual(play_pointed(2, [2, 3, 4], *lines), ((2, 3), "b", 3))
        self.assertEqual(play_pointed(None, [3], "run all on run", "run keep on run also"), ((3,), "run", 3))
        self.assertEqual(play_pointed(2, [2, 3], "run past home run", "run at on run also"), ((2, 3), "run", None))

    def test_they_do_nothing_else(self):
        for move, then in product(MOVES, ("run", "b")):
            lines = ("run past stay run", f"run under {move} {then} also")
            self.assertEqual(play_pointed(2, [0, 3], *lines), ((0, 3), "run", 2))

    def test_several(self):
        lines = ("run past on b", "run keep on c also", "run keep on d", "run under on e also", "run all on b")
        self.assertEqual(play_pointed(2, [4, 3, 2, 1], *lines), ((1, 2, 3), "b", 3))

    def test_grants_are_ascending(self):
        self.assertEqual(play_pointed(2, [4, 1], "run past on b", "run under on b also")[0], (1, 4))
        rule = rule_of("first set", "set all on run", "run past stay run", "run under stay run also")
        for low, high in product(range(20), range(21, 40)):
            self.assertEqual(rule(40, [[20], [high, low]])[1], (low, high))

    def test_two_rows_that_grant_the_same_asker(self):
        rule = rule_of("first run", "run all on run", "run all home run also", "run at home run also")
        played = play(rule, 3, [[1, 2], [2]])
        self.assertEqual(told(played), (((1,), (2,)), (0, 0), ("run",) * 3, (None, 1, 2), ()))


class FaultsTest(unittest.TestCase):
    def test_none(self):
        blind = rule_of("first run", "run past on run")
        self.assertEqual(play(blind, 1, [(0,)]).faults, ())
        self.assertEqual(play(blind, 1, [(0,), (0,)]).faults, ("none",))
        self.assertEqual(play(blind, 1, [(0,), (), (0,), (0,)]).faults, ("none",))

    def test_an_empty_round_has_no_fault(self):
        for lines in (("first run",), ("first run", "run all on run")):
            self.assertEqual(play(rule_of(*lines), 2, [[], ()]).faults, ())

    def test_two(self):
        double = rule_of("first run", "run keep on run", "run past on run also", "run all on run")
        self.assertEqual(play(double, 2, [(0,), (0, 1)]).grants, ((0,), (0, 1)))
        self.assertEqual(play(double, 2, [(0,), (0, 1)]).faults, ("two",))
        self.assertEqual(play(double, 2, [(0,), (0,), (1,)]).faults, ())

    def test_three_grants_are_two_too(self):
        rule = rule_of("first a", "a all on b", "b keep on b", "b past on b also", "b under on b also")
        played = play(rule, 3, [[1], [0, 1, 2]])
        self.assertEqual((played.grants[1], played.faults), ((0, 1, 2), ("two",)))

    def test_both_in_ascending_order(self):
        rule = rule_of("first a", "a all on b", "b keep on c", "b past on c also")
        played = play(rule, 2, [[0], [1, 0], [1]])
        self.assertEqual((played.grants, played.faults), (((0,), (0, 1), ()), ("none", "two")))

    def test_a_fault_of_any_round_is_told(self):
        late = rule_of("first a", "a keep on a", "a past on b", "b past on c", "c all home a")
        played = play(late, 2, [[0], [0], [1], [0], []])
        self.assertEqual((played.grants, played.faults), (((0,), (), (1,), (0,), ()), ("none",)))


class RoundsTest(unittest.TestCase):
    def test_the_example(self):
        played = play(Rule.read(FAIR), 3, [(0, 2), [2, 0], [1, 2], []])
        self.assertEqual(played.grants, ((0,), (2,), (1,), ()))
        self.assertEqual(played.done, (0, 0, 1, None))
        self.assertEqual(played.pointers, (None, 0, 2, 1, 1))
        self.assertEqual(played.faults, ())
        self.assertEqual(played.modes, ("run",) * 5)

    def test_the_examples_of_rules_that_are_called(self):
        fair, fixed = Rule.read(FAIR), Rule.read(FIXED)
        self.assertEqual((fair(2, [[0], [0, 1]]), fixed(2, [[0], [0, 1]])), (((0,), (1,)), ((0,), (0,))))

    def test_the_examples_of_histories(self):
        blind = rule_of("first run", "run past on run")
        self.assertEqual(play(blind, 1, ((0,), (0,))).faults, ("none",))

    def test_no_rounds(self):
        for rounds in ([], ()):
            played = play(Rule.read(FAIR), 4, rounds)
            self.assertEqual(told(played), ((), (), ("run",), (None,), ()))

    def test_rounds_in_any_order(self):
        fair = Rule.read(FAIR)
        wanted = told(play(fair, 4, [[0, 1, 3], [0, 2, 3], [0, 1, 2]]))
        self.assertEqual(told(play(fair, 4, [[3, 0, 1], (2, 3, 0), [2, 1, 0]])), wanted)
        self.assertEqual(told(play(fair, 4, ((1, 3, 0), [3, 2, 0], (0, 2, 1)))), wanted)
        self.assertEqual(wanted[0], ((0,), (2,), (0,)))

    def test_one_asker(self):
        played = play(Rule.read(FAIR), 1, [[0], [], [0]])
        self.assertEqual(told(played), (((0,), (), (0,)), (0, None, 1), ("run",) * 4, (None, 0, 0, 0), ()))

    def test_a_line_of_any_length(self):
        many = 10 ** 30
        played = play(Rule.read(FAIR), many, [[many - 1, 0], [many - 1], [many - 1]])
        self.assertEqual(played.grants, ((0,), (many - 1,), (many - 1,)))
        self.assertEqual(played.pointers, (None, 0, many - 1, many - 1))

    def test_long_rounds_and_many_of_them(self):
        many = 3000
        grants = Rule.read(FAIR)(many, [list(range(many))] * 100)
        self.assertEqual(grants, tuple((asker,) for asker in range(100)))

    def test_an_asker_that_never_asks_changes_nothing(self):
        rule = rule_of("first a", "a under on b", "a past on a also", "a all on b", "b keep home a", "b at on b also",
                       "b all stay a")
        for rounds in product(all_rounds(2), repeat=4):
            grants = rule(2, rounds)
            for place in range(3):
                seat = [0, 1, 2]
                seat.remove(place)
                longer = rule(3, [[seat[asker] for asker in asking] for asking in rounds])
                self.assertEqual(longer, tuple(tuple(seat[asker] for asker in some) for some in grants))


class SlowWayTest(unittest.TestCase):
    """Compares with a second way to play, which is written by the words of the document."""

    def same(self, rule, askers, rounds):
        self.assertEqual(told(play(rule, askers, rounds)), slow_play(rule, askers, rounds))

    def test_two_rows_of_every_kind(self):
        kinds = list(product(PICKS, MOVES, (False, True)))
        rounds = [[0, 2], [1], [0, 1, 2], [2], [], [1, 2], [0], [0, 1], [2, 0]]
        for (pick, move, also), (other, step, too) in product(kinds, kinds):
            rule = Rule("a", [Row("a", pick, move, "b", also), Row("a", other, step, "a", too),
                              Row("b", other, move, "a", too), Row("b", "all", "on", "b", also)])
            self.same(rule, 3, rounds)
            self.same(rule, 4, rounds[::-1])

    def test_all_short_rows_of_rounds(self):
        rules = [
            FAIR,
            "first run\nrun keep on run\nrun past on run also\nrun all on run",
            "first one\none keep stay two\none past on one\none all on one\ntwo past on one\ntwo all on one",
            "first a\na under on b also\na at home a\na all on b also\n"
            "b keep stay a\nb past home b also\nb all on a also",
        ]
        for text in rules:
            for rounds in product(all_rounds(3), repeat=3):
                self.same(Rule.read(text), 3, rounds)


class ConventionsTest(unittest.TestCase):
    def test_names(self):
        self.assertEqual(str(inspect.signature(play)), "(rule, askers, rounds)")
        self.assertEqual((play.__module__, Played.__module__), ("lineturns.rounds", "lineturns.rounds"))

    def test_arguments_by_name(self):
        played = play(rounds=[[1]], askers=2, rule=rule_of("first run", "run all on b"))
        self.assertEqual(told(played), (((1,),), (0,), ("run", "b"), (None, 1), ()))

    def test_it_returns_a_played(self):
        self.assertIs(type(play(Rule("run"), 1, [])), Played)

    def test_sequences_that_are_returned_are_tuples(self):
        rule = rule_of("first a", "a all on b", "b keep on c", "b past on c also")
        played = play(rule, 2, [[0], [1, 0], [1]])
        for some in told(played):
            self.assertIs(type(some), tuple)
        for granted in played.grants:
            self.assertIs(type(granted), tuple)
        self.assertIs(type(rule(2, [[0]])), tuple)

    def test_arguments_are_not_changed(self):
        rounds = [[2, 0, 1], (1, 0), []]
        before = copy.deepcopy(rounds)
        play(Rule.read(FAIR), 3, rounds)
        self.assertEqual(rounds, before)

    def test_later_changes_of_the_rounds_have_no_effect(self):
        rounds = [[2, 0], [1]]
        played = play(Rule.read(FAIR), 3, rounds)
        before = told(played)
        rounds[0].append(1)
        rounds.append([0])
        self.assertEqual(told(played), before)
        self.assertEqual(played.grants, ((0,), (1,)))

    def test_the_same_call_returns_an_equal_result(self):
        fair = Rule.read(FAIR)
        before = told(play(fair, 3, [[2], [0, 1]]))
        play(fair, 5, [[4], [3]])
        with self.assertRaises(InvalidRound):
            play(fair, 3, [[2], [3]])
        self.assertEqual(told(play(fair, 3, [[2], [0, 1]])), before)
        self.assertEqual((fair.first, len(fair.rows)), ("run", 2))

    def test_played_is_not_iterable(self):
        played = play(Rule("run"), 1, [[0]])
        for use in (iter, list, tuple):
            with self.assertRaises(TypeError):
                use(played)


class WrongRoundsTest(unittest.TestCase):
    def test_rounds_that_are_no_sequence(self):
        for value in any_values():
            if not isinstance(value, (list, tuple)):
                self.assertEqual(wrong_at(2, value), 0, value)

    def test_any_value_as_a_round(self):
        rounds_of_two = [[], [0], [1], [0, 1], [1, 0]]
        for value in any_values() + [[1, 0], (1,), [0, 1, 0], [2], [-1], [0, True], [False], [0, None], ["0"]]:
            right = isinstance(value, (list, tuple)) and list(value) in rounds_of_two
            right = right and all(type(asker) is int for asker in value)
            for ahead in ([], [[0]], [(), [1, 0], [0]]):
                wanted = None if right else len(ahead)
                self.assertEqual(wrong_at(2, ahead + [value]), wanted, value)
                self.assertEqual(wrong_at(2, tuple(ahead) + (value, [1])), wanted, value)

    def test_numbers_out_of_bounds(self):
        for askers in (1, 2, 5, 40):
            self.assertIsNone(wrong_at(askers, [[0], [askers - 1]]))
            self.assertEqual(wrong_at(askers, [[0], [askers]]), 1)
            self.assertEqual(wrong_at(askers, [[-1]]), 0)
            self.assertEqual(wrong_at(askers, [[], [], [askers - 1, 10 ** 30]]), 2)

    def test_an_asker_twice(self):
        self.assertEqual(wrong_at(3, [[0, 1], [1, 2, 1]]), 1)
        self.assertEqual(wrong_at(3, [(2, 2)]), 0)

    def test_bools_are_no_numbers(self):
        self.assertEqual(wrong_at(3, [[0], [True]]), 1)
        self.assertEqual(wrong_at(3, [[False]]), 0)
        self.assertEqual(wrong_at(3, [[2, True]]), 0)

    def test_rounds_that_are_no_sequences(self):
        for value in (None, 0, True, "", "01", {0: 1}, {0}, Rule("run")):
            self.assertEqual(wrong_at(3, [[0], value, [1]]), 1)

    def test_rounds_with_things_that_are_no_numbers(self):
        for value in (None, "0", [0], (0,), [], {}, Rule("run"), Row("a", "all", "on", "a")):
            self.assertEqual(wrong_at(3, [[0], [1, value]]), 1)
            self.assertEqual(wrong_at(3, [[value]]), 0)

    def test_the_first_wrong_one_is_named(self):
        self.assertEqual(wrong_at(2, [[0], [2], None, [0, 0]]), 1)
        self.assertEqual(wrong_at(2, [[0], [1], [0, 0], "x"]), 2)

    def test_a_wrong_round_behind_others_stops_all(self):
        with self.assertRaises(InvalidRound) as caught:
            play(Rule("run"), 2, [[0]] * 39 + [[2]])
        self.assertEqual(caught.exception.at, 39)


if __name__ == "__main__":
    unittest.main()
