import inspect
import random
import unittest

from lineturns.errors import InvalidRound, LineError, Refused
from lineturns.line import Line
from lineturns.rounds import play
from lineturns.rules import Rule
from samples import BLIND, DOUBLE, FAIR, FIXED, FULL, LATE, LOCK, WEIGHTED, any_values, slow_play
from slow import random_rules

RULES = (FAIR, FIXED, BLIND, DOUBLE, WEIGHTED, LOCK, LATE, FULL)


class Stop(Exception):
    """An error of the tests."""


def state_of(line):
    """All that a line shows."""
    return str(line.rule), line.askers, line.mode, line.pointer, line.rounds, len(line)


def history_of(line):
    """What a line shows, and what it shows behind each `undo`; this takes back all."""
    told = [state_of(line)]
    while line.undo():
        told.append(state_of(line))
    return told


def rounds_by_chance(chance, askers, many):
    """Rounds as lists and tuples, in any order."""
    rounds = [chance.sample(range(askers), chance.randrange(askers + 1)) for _ in range(many)]
    return [tuple(asking) if chance.randrange(2) else asking for asking in rounds]


def ascending(rounds):
    return tuple(tuple(sorted(asking)) for asking in rounds)


def wrong_rounds(askers):
    """Values that are no rounds of so many askers."""
    more = [[askers], (-1,), [0, 0], [True], (False,), [0, None], ["0"], "", "0", {}, {0}, range(1), [[0]], [10 ** 30]]
    return more + [value for value in any_values() if not is_round(value, askers)]


def is_round(value, askers):
    if not isinstance(value, (list, tuple)) or any(type(asker) is not int for asker in value):
        return False
    return len(set(value)) == len(value) and all(0 <= asker < askers for asker in value)


def worked():
    """A line behind a few things that can be taken back, two of them rounds one by one."""
    line = Line(Rule.read(FAIR), 4)
    line.ask([3, 1])
    line.several([(2,), [0, 3]])
    line.change(Rule.read(WEIGHTED))
    line.ask([2, 0])
    return line


class NewLineTest(unittest.TestCase):
    def test_attributes(self):
        rule = Rule.read(WEIGHTED)
        line = Line(rule, 5)
        self.assertIs(line.rule, rule)
        self.assertEqual((line.askers, line.mode, line.pointer, line.rounds, len(line)), (5, "one", None, (), 0))
        self.assertIs(line.undo(), False)

    def test_one_to_many_askers(self):
        for askers in (1, 2, 40, 1000, 10 ** 30):
            line = Line(Rule.read(FAIR), askers)
            self.assertEqual((line.ask([askers - 1]), line.ask([askers - 1]), line.pointer),
                             ((askers - 1,), (askers - 1,), askers - 1))


class AskTest(unittest.TestCase):
    def test_as_played(self):
        chance = random.Random(51)
        for rule in [Rule.read(text) for text in RULES] + random_rules(60, 51):
            for askers in (1, 3, 6):
                rounds = rounds_by_chance(chance, askers, 15)
                played = play(rule, askers, rounds)
                grants, _, modes, pointers, _ = slow_play(rule, askers, rounds)
                line = Line(rule, askers)
                for at, asking in enumerate(rounds):
                    self.assertEqual((line.mode, line.pointer), (modes[at], pointers[at]))
                    granted = line.ask(asking)
                    self.assertEqual((type(granted), granted, granted), (tuple, grants[at], played.grants[at]))
                    self.assertEqual((line.mode, line.pointer), (played.modes[at + 1], played.pointers[at + 1]))
                    self.assertEqual((line.rounds, len(line)), (ascending(rounds[:at + 1]), at + 1))

    def test_rounds_in_any_order(self):
        line = Line(Rule.read(DOUBLE), 4)
        self.assertEqual([line.ask(asking) for asking in ([1], (3, 2, 1), [0, 3, 2], [])], [(1,), (1, 2), (2,), ()])
        self.assertEqual(line.rounds, ((1,), (1, 2, 3), (0, 2, 3), ()))

    def test_lists_that_are_changed_behind_the_call(self):
        line = Line(Rule.read(FAIR), 4)
        asking, more = [2, 0], [3]
        line.ask(asking)
        asking.append(1)
        rounds = [more, [1, 0]]
        line.several(rounds)
        more.append(2)
        rounds[1].clear()
        rounds.append([0])
        line += asking
        asking.clear()
        self.assertEqual(line.rounds, ((0, 2), (3,), (0, 1), (0, 1, 2)))
        self.assertEqual((asking, more, rounds), ([], [3, 2], [[3, 2], [], [0]]))

    def test_arguments_are_not_changed(self):
        line = Line(Rule.read(FAIR), 4)
        asking, rounds = [2, 0, 1], [[3, 1], (2, 0)]
        line.ask(asking)
        line += asking
        line.several(rounds)
        self.assertEqual((asking, rounds), ([2, 0, 1], [[3, 1], (2, 0)]))

    def test_the_rounds_are_a_tuple_of_their_own(self):
        line = Line(Rule.read(FAIR), 2)
        before = line.rounds
        line.ask([1, 0])
        line.undo()
        line.ask([1])
        self.assertEqual((before, line.rounds, type(line.rounds)), ((), ((1,),), tuple))

    def test_in_place(self):
        line = same = Line(Rule.read(FAIR), 3)
        line += [2, 0]
        line += ()
        self.assertIs(line, same)
        self.assertEqual(state_of(line), (FAIR, 3, "run", 0, ((0, 2), ()), 2))
        held = [line]
        held[0] += (1, 2)
        self.assertIs(held[0], line)
        self.assertEqual((line.pointer, line.rounds[-1]), (1, (1, 2)))

    def test_other_operators(self):
        line = Line(Rule.read(FAIR), 3)
        for use in (lambda: line + [0], lambda: [0] + line, lambda: line(3, [[0]]), lambda: line[0]):
            with self.assertRaises(TypeError):
                use()


class WrongRoundTest(unittest.TestCase):
    def test_any_value(self):
        for value in wrong_rounds(4):
            line = worked()
            before = history_of(worked())
            with self.assertRaises(InvalidRound) as caught:
                line.ask(value)
            self.assertEqual(caught.exception.at, 4, value)
            with self.assertRaises(InvalidRound) as caught:
                line += value
            self.assertEqual(caught.exception.at, 4, value)
            self.assertEqual(history_of(line), before)

    def test_any_value_that_is_a_round(self):
        for value in any_values():
            if is_round(value, 4):
                line = worked()
                line.ask(value)
                line += value
                self.assertEqual(line.rounds[4:], ascending([value, value]))

    def test_the_number_of_rounds_so_far(self):
        line = Line(Rule.read(FAIR), 2)
        for at in range(5):
            with self.assertRaises(InvalidRound) as caught:
                line.ask([2])
            self.assertEqual(caught.exception.at, at)
            line.ask([])
        line.several([[0], [1]])
        line.change(Rule.read(FIXED))
        with self.assertRaises(InvalidRound) as caught:
            line.ask([0, 0])
        self.assertEqual(caught.exception.at, 7)
        line.undo()
        line.undo()
        with self.assertRaises(InvalidRound) as caught:
            line += None
        self.assertEqual(caught.exception.at, 5)

    def test_bounds(self):
        for askers in (1, 2, 40):
            line = Line(Rule.read(FAIR), askers)
            self.assertEqual(line.ask([askers - 1]), (askers - 1,))
            for asking in ([askers], [-1], [0, askers]):
                with self.assertRaises(LineError):
                    line.ask(asking)


class SeveralTest(unittest.TestCase):
    def test_as_asked_one_by_one(self):
        chance = random.Random(52)
        for text in RULES:
            rounds = rounds_by_chance(chance, 5, 20)
            one, other = Line(Rule.read(text), 5), Line(Rule.read(text), 5)
            told = one.several(rounds[:8]) + one.several(tuple(rounds[8:]))
            self.assertEqual(told, tuple([other.ask(asking) for asking in rounds]))
            self.assertEqual(state_of(one)[:-1], state_of(other)[:-1])
            self.assertEqual((len(one), len(other)), (2, 20))
            self.assertEqual({type(told)} | {type(granted) for granted in told}, {tuple})

    def test_no_rounds(self):
        for rounds in ([], ()):
            line = worked()
            before = state_of(line)
            self.assertEqual(line.several(rounds), ())
            self.assertEqual(state_of(line), before[:-1] + (before[-1] + 1,))
            self.assertIs(line.undo(), True)
            self.assertEqual(history_of(line), history_of(worked()))

    def test_a_wrong_one(self):
        right = [[0], (3, 1), [], [2, 0, 1]]
        for at in range(5):
            for value in wrong_rounds(4):
                line = worked()
                rounds = right[:at] + [value] + right[at:]
                for some in (rounds, tuple(rounds), rounds + [value], rounds + [None, [9]]):
                    with self.assertRaises(Refused) as caught:
                        line.several(some)
                    error = caught.exception
                    self.assertEqual(error.at, at)
                    self.assertIs(type(error.__cause__), InvalidRound)
                    # It has the number of the rounds that were there and of those ahead of it.
                    self.assertEqual(error.__cause__.at, 4 + at)
                self.assertEqual(history_of(line), history_of(worked()))

    def test_what_is_asked_behind_a_refused_one(self):
        line = Line(Rule.read(FAIR), 3)
        with self.assertRaises(LineError):
            line.several([[0], [1], [3]])
        self.assertEqual((line.several([[0, 1], [0, 1]]), line.rounds), (((0,), (1,)), ((0, 1), (0, 1))))


class ChangeTest(unittest.TestCase):
    def test_to_another_rule(self):
        line = Line(Rule.read(FAIR), 3)
        line.several([[1], [0, 2]])
        rule = Rule.read("first a\na keep on b\na all on a\nb all on b")
        self.assertIsNone(line.change(rule))
        self.assertIs(line.rule, rule)
        self.assertEqual(state_of(line)[1:], (3, "a", None, ((1,), (0, 2)), 2))
        self.assertEqual((line.ask([2]), line.mode, line.ask([1, 2]), line.mode, line.pointer),
                         ((2,), "a", (2,), "b", 2))
        self.assertEqual(line.rounds, ((1,), (0, 2), (2,), (1, 2)))

    def test_to_an_equal_rule(self):
        line = Line(Rule.read(WEIGHTED), 3)
        line.several([[1], [1, 2]])
        self.assertEqual((line.mode, line.pointer), ("two", 1))
        rule = Rule.read(WEIGHTED)
        line.change(rule)
        self.assertIs(line.rule, rule)
        self.assertEqual((line.mode, line.pointer, line.rounds, len(line)), ("one", None, ((1,), (1, 2)), 2))
        line.change(rule)
        self.assertEqual(len(line), 3)
        self.assertEqual((line.undo(), line.undo(), line.mode, line.pointer), (True, True, "two", 1))

    def test_back_to_the_old_rule(self):
        old = Rule.read(WEIGHTED)
        line = Line(old, 3)
        line.several([[1], [1, 2]])
        line.change(Rule.read(FAIR))
        line.ask([2])
        self.assertEqual((line.undo(), line.undo()), (True, True))
        self.assertIs(line.rule, old)
        self.assertEqual(state_of(line), (WEIGHTED, 3, "two", 1, ((1,), (1, 2)), 1))


class UndoTest(unittest.TestCase):
    def test_to_the_beginning_and_beyond(self):
        line = worked()
        self.assertEqual(history_of(line), [
            (WEIGHTED, 4, "one", 0, ((1, 3), (2,), (0, 3), (0, 2)), 4),
            (WEIGHTED, 4, "one", None, ((1, 3), (2,), (0, 3)), 3),
            (FAIR, 4, "run", 3, ((1, 3), (2,), (0, 3)), 2),
            (FAIR, 4, "run", 1, ((1, 3),), 1),
            (FAIR, 4, "run", None, (), 0),
        ])
        for _ in range(3):
            self.assertIs(line.undo(), False)
            self.assertEqual(state_of(line), (FAIR, 4, "run", None, (), 0))
        self.assertEqual((line.ask([2]), line.undo(), line.undo()), ((2,), True, False))

    def test_in_place(self):
        line = Line(Rule.read(FAIR), 3)
        line += [2]
        line += [1]
        self.assertIs(line.undo(), True)
        self.assertEqual(state_of(line), (FAIR, 3, "run", 2, ((2,),), 1))

    def test_a_round_that_changed_nothing(self):
        line = Line(Rule.read(FAIR), 3)
        line.ask([])
        line.ask([])
        self.assertEqual((len(line), line.undo(), line.rounds, line.undo(), line.rounds, line.undo()),
                         (2, True, ((),), True, (), False))

    def test_by_chance(self):
        chance = random.Random(53)
        rules = [Rule.read(text) for text in RULES]
        for _ in range(60):
            line = Line(chance.choice(rules), 4)
            states = [state_of(line)]
            for _ in range(30):
                act = chance.randrange(6)
                if act == 0:
                    self.assertIs(line.undo(), len(states) > 1)
                    states = states[:-1] or states
                elif act == 1:
                    line.change(chance.choice(rules))
                elif act == 2:
                    line.several(rounds_by_chance(chance, 4, chance.randrange(4)))
                elif act == 3:
                    line += rounds_by_chance(chance, 4, 1)[0]
                else:
                    line.ask(rounds_by_chance(chance, 4, 1)[0])
                if act:
                    states.append(state_of(line))
                self.assertEqual(state_of(line), states[-1])
                self.assertEqual(len(line), len(states) - 1)
            self.assertEqual(history_of(line), states[::-1])


class TrialTest(unittest.TestCase):
    def work(self, line):
        """Do each thing that can be done."""
        line.ask([1])
        line.several([[0], (3, 2)])
        line.change(Rule.read(LOCK))
        line += [2, 1]
        line.undo()

    def test_the_line_is_as_it_was(self):
        line = worked()
        with line.trial() as held:
            self.assertIs(held, line)
            self.assertEqual(state_of(line), state_of(worked()))
            self.work(line)
            self.assertEqual(len(line), 7)
        self.assertEqual(history_of(line), history_of(worked()))

    def test_it_is_as_it_was_when_it_was_entered(self):
        line = worked()
        trial = line.trial()
        line.ask([0, 1, 2, 3])
        line.change(Rule.read(FIXED))
        before = state_of(line)
        with trial:
            line.ask([3])
        self.assertEqual(state_of(line), before)

    def test_an_error_goes_on(self):
        line = worked()
        for error in (Stop, ValueError, KeyError, KeyboardInterrupt):
            with self.assertRaises(error):
                with line.trial():
                    self.work(line)
                    raise error()
        with self.assertRaises(InvalidRound) as caught:
            with line.trial() as held:
                held.ask([0])
                held.ask([4])
        self.assertEqual(caught.exception.at, 5)
        with self.assertRaises(Refused):
            with line.trial() as held:
                held.several([[0], [0, 0]])
        self.assertEqual(history_of(line), history_of(worked()))

    def test_nothing_done(self):
        line = worked()
        with line.trial():
            pass
        self.assertEqual(history_of(line), history_of(worked()))

    def test_things_taken_back_in_it(self):
        for many in range(7):
            line = worked()
            with line.trial():
                for at in range(many):
                    self.assertIs(line.undo(), at < 4)
                line.ask([3, 2])
                line.change(Rule.read(BLIND))
            self.assertEqual(history_of(line), history_of(worked()))

    def test_one_within_another(self):
        line = worked()
        with line.trial():
            line.undo()
            line.ask([1, 2])
            before = state_of(line)
            with line.trial() as inner:
                self.assertIs(inner, line)
                line.undo()
                line.undo()
                line.undo()
                line.several([[3], [3]])
                with self.assertRaises(Stop):
                    with line.trial():
                        line.undo()
                        raise Stop()
                self.assertEqual(line.rounds[-2:], ((3,), (3,)))
            self.assertEqual(state_of(line), before)
            line.undo()
            self.assertEqual(line.rounds, worked().rounds[:-1])
        self.assertEqual(history_of(line), history_of(worked()))

    def test_one_behind_another(self):
        line = worked()
        trials = [line.trial(), line.trial()]
        self.assertIsNot(trials[0], trials[1])
        for trial in trials:
            with trial:
                self.work(line)
            self.assertEqual(state_of(line), state_of(worked()))
        line.ask([0])
        self.assertEqual(len(line.rounds), 5)
        line.undo()
        self.assertEqual(history_of(line), history_of(worked()))

    def test_lines_side_by_side(self):
        one, other = worked(), worked()
        with one.trial():
            one.undo()
            other.ask([1])
            self.assertEqual((len(one), len(other)), (3, 5))
        self.assertEqual((len(one), len(other), other.rounds[-1]), (4, 5, (1,)))

    def test_the_trial_is_not_iterable(self):
        for use in (iter, list, tuple):
            with self.assertRaises(TypeError):
                use(Line(Rule("run"), 1).trial())


class WithinTest(unittest.TestCase):
    def test_what_it_returns(self):
        line = worked()
        told = line.within(lambda held: (held is line, held.ask([3, 1]), held.rounds, held.undo()))
        self.assertEqual(told, (True, (1,), worked().rounds + ((1, 3),), True))
        self.assertIs(line.within(lambda held: held), line)
        self.assertIsNone(line.within(lambda held: held.change(Rule.read(FIXED))))
        self.assertEqual(history_of(line), history_of(worked()))

    def test_an_error_goes_on(self):
        line = worked()

        def work(held):
            held.undo()
            held.several([[1], [2]])
            raise Stop()

        with self.assertRaises(Stop):
            line.within(work)
        with self.assertRaises(InvalidRound) as caught:
            line.within(lambda held: held.ask("x"))
        self.assertEqual(caught.exception.at, 4)
        self.assertEqual(history_of(line), history_of(worked()))

    def test_one_within_another(self):
        line = worked()

        def work(held):
            held.undo()
            inner = held.within(lambda some: some.several([[3], [3]]))
            return inner, held.rounds, len(held)

        self.assertEqual(line.within(work), (((3,), (3,)), worked().rounds[:-1], 3))
        self.assertEqual(history_of(line), history_of(worked()))

    def test_within_a_trial(self):
        line = worked()
        with line.trial():
            line.ask([1])
            self.assertEqual(line.within(Line.undo), True)
            self.assertEqual((len(line), line.within(len)), (5, 5))
        self.assertEqual(history_of(line), history_of(worked()))


class ConventionsTest(unittest.TestCase):
    def test_names(self):
        wanted = {"ask": "(self, asking)", "several": "(self, rounds)", "change": "(self, rule)", "undo": "(self)",
                  "trial": "(self)", "within": "(self, work)"}
        for name, parameters in wanted.items():
            self.assertEqual(str(inspect.signature(getattr(Line, name))), parameters)
        self.assertEqual((str(inspect.signature(Line)), Line.__module__), ("(rule, askers)", "lineturns.line"))
        self.assertIsInstance(Line.rounds, property)

    def test_arguments_by_name(self):
        line = Line(askers=3, rule=Rule.read(FAIR))
        self.assertEqual((line.ask(asking=[2]), line.several(rounds=[[0]])), ((2,), ((0,),)))
        line.change(rule=Rule.read(FIXED))
        self.assertEqual((line.within(work=len), line.mode, line.pointer), (3, "run", None))

    def test_a_line_is_not_iterable(self):
        for line in (Line(Rule("run"), 1), worked()):
            for use in (iter, list, tuple):
                with self.assertRaises(TypeError):
                    use(line)

    def test_reading_changes_nothing(self):
        line = worked()
        for _ in range(3):
            self.assertEqual((state_of(line), line.rounds), (state_of(worked()), worked().rounds))

    def test_lines_share_nothing(self):
        rule = Rule.read(WEIGHTED)
        one, other = Line(rule, 3), Line(rule, 3)
        one.several([[1], [1]])
        self.assertEqual((state_of(other)[2:], str(rule)), (("one", None, (), 0), WEIGHTED))

    def test_many_rounds(self):
        line = Line(Rule.read(FAIR), 40)
        for _ in range(3000):
            line.ask(tuple(range(40)))
        self.assertEqual((line.pointer, len(line), len(line.rounds)), (39, 3000, 3000))
        with line.trial():
            while line.undo():
                pass
        self.assertEqual((line.pointer, len(line), len(line.rounds)), (39, 3000, 3000))


if __name__ == "__main__":
    unittest.main()
