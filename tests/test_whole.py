"""What the modules say of the same rules goes together."""

import random
import unittest
from itertools import product

from lineturns.comparing import alike, kin, least_parting, merged, needless
from lineturns.deciding import faults, happens, history, least, ring, ring_holds
from lineturns.desk import Desk
from lineturns.errors import LineError, NoRow
from lineturns.levels import levels, play_levels
from lineturns.line import Line
from lineturns.papers import paper, paper_holds
from lineturns.rounds import play
from lineturns.rows import Row
from lineturns.rules import Rule
from lineturns.waiting import growth, least_worse, longest, waits
from samples import FAIR, FAULTY, FIXED, FULL, GROWTHS, TWIN, WEIGHTED, any_values, slow_play
from slow import random_rules

FAULTS = ("endless", "none", "two")


def rules_of_the_tables():
    return [Rule.read(text) for text, _ in GROWTHS + FAULTY]


def desk_with(rule, askers):
    desk = Desk()
    desk.say(f"line {askers}")
    desk.say("rule " + str(rule).replace("\n", " ; "))
    return desk


def said(desk, rounds):
    """What a desk says to rounds, as grants."""
    told = [desk.say(" ".join(["ask"] + [str(asker) for asker in asking])) for asking in rounds]
    return tuple(() if text == "nobody" else tuple(int(word) for word in text.split(" ")) for text in told)


class WholeCase(unittest.TestCase):
    def played(self, rule, askers, rounds):
        """The grants of rounds, after a check that all ways to play them grant alike."""
        grants = slow_play(rule, askers, rounds)[0]
        self.assertEqual(rule(askers, rounds), grants)
        played = play(rule, askers, rounds)
        self.assertEqual(played.grants, grants)
        one, other = Line(rule, askers), Line(rule, askers)
        self.assertEqual(one.several(rounds), grants)
        self.assertEqual(tuple([other.ask(asking) for asking in rounds]), grants)
        for line in (one, other):
            self.assertEqual((line.mode, line.pointer), (played.modes[-1], played.pointers[-1]))
            self.assertEqual(line.rounds, tuple(tuple(sorted(asking)) for asking in rounds))
        if askers <= 40:
            desk = desk_with(rule, askers)
            self.assertEqual(said(desk, rounds), grants)
            self.assertEqual((desk.line.mode, desk.line.pointer), (one.mode, one.pointer))
        return grants


class PlayingTest(WholeCase):
    def test_all_ways_grant_alike(self):
        chance = random.Random(61)
        for rule in rules_of_the_tables() + random_rules(60, 61):
            for askers in (1, 2, 5, 40):
                rounds = [chance.sample(range(askers), chance.randrange(askers + 1)) for _ in range(12)]
                self.played(rule, askers, rounds)

    def test_rows_of_forty_rounds(self):
        chance = random.Random(62)
        for text in (FAIR, FULL, WEIGHTED):
            rounds = [chance.sample(range(40), chance.randrange(41)) for _ in range(40)]
            self.played(Rule.read(text), 40, rounds)

    def test_a_line_goes_on_from_where_play_ends(self):
        chance = random.Random(63)
        for rule in rules_of_the_tables():
            rounds = [tuple(chance.sample(range(4), chance.randrange(5))) for _ in range(10)]
            line = Line(rule, 4)
            line.several(rounds[:6])
            with line.trial():
                line.several(rounds[::-1])
            more = line.several(rounds[6:])
            self.assertEqual(more, rule(4, rounds)[6:])
            self.assertEqual(rule(4, line.rounds), rule(4, rounds))


class ShownTest(WholeCase):
    """What is shown by rounds shows what it says, however it is played."""

    def rules(self):
        return rules_of_the_tables() + random_rules(60, 64)

    def test_histories(self):
        for rule, fault in product(self.rules(), ("none", "two")):
            told = history(rule, fault)
            self.assertIs(told is None, not happens(rule, fault))
            if told is not None:
                grants = self.played(rule, *told)
                self.assertEqual(len(grants[-1]) > 1, fault == "two")
                self.assertTrue(told[1][-1])
                self.assertIn(fault, play(rule, *told).faults)

    def test_rings(self):
        for rule in self.rules():
            told = ring(rule)
            self.assertIs(told is None, not happens(rule, "endless"))
            if told is not None:
                askers, asker, ahead, turn = told
                line = Line(rule, askers)
                line.several(ahead)
                before = (line.mode, line.pointer)
                for _ in range(3):
                    for asking, granted in zip(turn, line.several(turn)):
                        self.assertTrue(asker in asking and asker not in granted)
                    self.assertEqual((line.mode, line.pointer), before)
                self.assertIs(ring_holds(rule, (askers, asker, ahead, turn * 2)), True)
                self.assertIs(ring_holds(rule, (askers + 1, asker, ahead + turn, turn)), True)
                self.assertIsNone(waits(rule, askers))

    def test_longest(self):
        for rule in self.rules():
            for askers in (1, 3, 5):
                told = longest(rule, askers)
                if told is not None:
                    asker, ahead, vain = told
                    grants = self.played(rule, askers, ahead + vain)[len(ahead):]
                    self.assertTrue(all(asker in asking for asking in vain))
                    self.assertFalse(any(asker in granted for granted in grants))
                    self.assertEqual(str(len(vain)), desk_with(rule, 1).say(f"waits {askers}"))

    def test_partings(self):
        rules = self.rules()
        for p, q in zip(rules, rules[1:] + rules[:1]):
            told = least_parting(p, q)
            self.assertIs(told is None, alike(p, q))
            if told is not None:
                mine, other = self.played(p, *told), self.played(q, *told)
                self.assertEqual((mine[:-1], mine[-1] == other[-1]), (other[:-1], False))


class AnswersTest(unittest.TestCase):
    def test_for_ever(self):
        for rule in rules_of_the_tables() + random_rules(100, 65):
            endless = happens(rule, "endless")
            desk = desk_with(rule, 3)
            self.assertEqual([value is None for value in (growth(rule), paper(rule), ring(rule), least(rule, "endless"))],
                             [endless, endless, not endless, not endless])
            self.assertIs(desk.say("grows") == "endless", endless)
            self.assertIs("endless" in desk.say("faults").split(" "), endless)
            self.assertEqual(desk.say("faults"), " ".join(faults(rule)) or "never")
            for askers in (1, 2, 4):
                ever = endless and least(rule, "endless") <= askers
                self.assertEqual((waits(rule, askers) is None, desk.say(f"waits {askers}") == "endless"), (ever, ever))
            if not endless:
                self.assertIs(paper_holds(rule, paper(rule)), True)

    def test_the_growth_of_the_waits(self):
        for text, (rounds, askers) in GROWTHS:
            desk = desk_with(Rule.read(text), 2)
            self.assertEqual(desk.say("grows"), f"{rounds} in {askers}")
            low, high = int(desk.say("waits 4")), int(desk.say("waits 16"))
            self.assertEqual((high - low) * askers, 12 * rounds)

    def test_levels_of_one(self):
        for rule in rules_of_the_tables() + random_rules(30, 66):
            for askers in (1, 2, 4):
                self.assertEqual(levels(rule, rule, askers, 1), waits(rule, askers))

    def test_alike_rules_answer_alike(self):
        pairs = [(Rule.read(FAIR), Rule.read(TWIN))]
        for rule in rules_of_the_tables() + random_rules(60, 67):
            pairs.append((rule, merged(rule)))
            pairs += [(rule, rule.without(at)) for at in needless(rule)[:2]]
        for p, q in pairs:
            self.assertIs(alike(p, q), True)
            self.assertEqual((faults(p), growth(p)), (faults(q), growth(q)), (str(p), str(q)))
            self.assertEqual([least(p, fault) for fault in FAULTS], [least(q, fault) for fault in FAULTS])
            for askers in (1, 2, 4):
                self.assertEqual(waits(p, askers), waits(q, askers))
            self.assertEqual((least_worse(p, q, 4), levels(p, q, 2, 3)), (None, levels(q, p, 2, 3)))
            for fault in ("none", "two"):
                one, other = history(p, fault), history(q, fault)
                self.assertEqual(one and (one[0], len(one[1])), other and (other[0], len(other[1])))
            told = ring(p)
            if told is not None:
                # The mode or the pointer of the other rule may come back later only.
                self.assertTrue(any(ring_holds(q, told[:2] + (told[2] + told[3] * some, told[3] * many))
                                    for some, many in product(range(9), range(1, 9))))


class PassedOnTest(unittest.TestCase):
    """What was returned may be passed on, also with one of its things otherwise."""

    def test_rings(self):
        for rule in rules_of_the_tables():
            told = ring(rule)
            if told is not None:
                askers, asker, ahead, turn = told
                for value in (told[:3], told + (askers,), told + told, (told,), list(told), (asker, askers, ahead, turn),
                              (askers, asker, turn), (askers, asker, ahead, turn[1:] + ((asker, asker),)), ahead, turn,
                              (askers, True, ahead, turn), (askers, asker, list(ahead), turn)):
                    self.assertIs(ring_holds(rule, value), False)
                for other in rules_of_the_tables()[:6]:
                    self.assertIs(ring_holds(other, told), False)

    def test_papers(self):
        for rule in rules_of_the_tables():
            told = paper(rule)
            if told is not None:
                for value in (told + told[:1], list(told), told + (told,), (told,), told[0], [list(entry) for entry in told]):
                    self.assertIs(paper_holds(rule, value), False)
                self.assertIs(paper_holds(rule, told[::-1]), True)
                for at, (mode, side, stage, way, rank) in enumerate(told):
                    for entry in ((mode, side, stage + 1000, way, rank), (mode, side, stage, way), mode,
                                  (mode, side, stage, way, rank, 0), (mode, side, True, way, rank)):
                        self.assertIn(paper_holds(rule, told[:at] + (entry,) + told[at + 1:]), (True, False))

    def test_rounds(self):
        for rule in rules_of_the_tables():
            told = longest(rule, 5) or ring(rule)[1:]
            rounds = told[1] + told[2]
            line = Line(rule, 5)
            line.several(rounds * 9)
            self.assertEqual(rule(5, line.rounds), rule(5, rounds * 9))
            self.assertEqual(line.within(lambda held: held.several(held.rounds + ((),)))[-1], ())
            again = Line(rule, 6)
            again += rounds[0] if rounds else ()
            self.assertEqual(again.rounds, rounds[:1] or ((),))
            pairs = [[(asker, asker) for asker in asking] for asking in line.rounds]
            grants = play_levels(rule, Rule.read(FAIR), 5, 5, pairs)
            self.assertEqual(grants, tuple(tuple((asker, asker) for asker in granted) for granted in rule(5, line.rounds)))
            self.assertEqual(play_levels(rule, Rule.read(FAIR), 5, 5, play_levels(rule, Rule.read(FIXED), 5, 5, pairs))[:1],
                             grants[:1])

    def test_rules(self):
        for rule in random_rules(30, 68):
            other = merged(rule) + rule.renamed("a", "zzzz") + merged(rule)
            rows = other.rows + (Row("zzzz", "all", "on", "zzzz"),)
            self.assertIs(alike(other, merged(other)), True)
            self.assertIs(alike(Rule(other.first, rows), Rule.read(str(Rule(other.first, rows)))), True)
            self.assertEqual(sorted(mode for mates in kin(other) for mode in mates), list(other.modes))


class ConventionsTest(unittest.TestCase):
    def test_objects_are_not_iterable(self):
        rule = Rule.read(FAIR)
        line = Line(rule, 2)
        for thing in (rule, rule[0], play(rule, 1, [[0]]), line, line.trial(), Desk()):
            for use in (iter, list, tuple, sorted, set, lambda some: [one for one in some], lambda some: (*some,)):
                with self.assertRaises(TypeError):
                    use(thing)

    def test_objects_with_equality(self):
        rule, row = Rule.read(FAIR), Row("run", "all", "on", "run")
        for thing in (rule, row, rule + rule):
            for value in any_values() + [str(thing)]:
                if type(value) is not type(thing):
                    self.assertIs(thing == value, False)
                    self.assertIs(thing != value, True)

    def test_in_place_operators_return_new_rules(self):
        rule = same = Rule.read(FAIR)
        rule += Rule.read(TWIN)
        self.assertIsNot(rule, same)
        self.assertEqual((len(rule), len(same), str(same)), (6, 2, FAIR))

    def test_any_value_raises_what_is_described_alone(self):
        fair = Rule.read(FAIR)
        uses = (lambda value: happens(fair, value), lambda value: history(fair, value), lambda value: least(fair, value),
                lambda value: play(fair, 2, value), lambda value: fair(2, value), lambda value: Rule(value),
                lambda value: Rule("run", value), lambda value: Row(value, value, value, value, value),
                lambda value: ring_holds(fair, value), lambda value: paper_holds(fair, value),
                lambda value: play_levels(fair, fair, 2, 2, value), lambda value: Line(fair, 2).ask(value),
                lambda value: Line(fair, 2).several([value]), lambda value: Desk().say(value))
        for use in uses:
            for value in any_values():
                try:
                    use(value)
                except LineError:
                    pass

    def test_errors_change_nothing(self):
        rule = Rule.read(FULL)
        with self.assertRaises(NoRow):
            rule.without(12)
        with self.assertRaises(LineError):
            rule(2, [[0], [2]])
        self.assertEqual(str(rule), FULL)

    def test_whatever_calls_were_made_in_between(self):
        rules = rules_of_the_tables()
        calls = [
            lambda p, q: (alike(p, q), least_parting(p, q), needless(p), kin(q), merged(p)),
            lambda p, q: (levels(p, q, 2, 2), play_levels(p, q, 2, 2, [[(1, 1), (0, 0)], [(0, 1)]])),
            lambda p, q: (faults(p), ring(p), paper(q), growth(p), longest(q, 3), least_worse(p, q, 3)),
            lambda p, q: (Line(p, 3).several([[1], [0, 2], [2, 1]]), said(desk_with(q, 3), [[1], [0, 2], [2, 1]])),
        ]
        pairs = list(zip(rules, rules[1:]))
        first = [call(*pair) for call in calls for pair in pairs]
        again = [call(*pair) for call in calls[::-1] for pair in pairs[::-1]]
        self.assertEqual(first, again[::-1])


if __name__ == "__main__":
    unittest.main()
