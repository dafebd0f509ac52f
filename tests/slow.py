"""Slow ways to decide what rules do, written by the words of the document and apart from the program."""

import random
from itertools import product

from lineturns.rows import Row
from lineturns.rules import Rule
from samples import MOVES, PICKS, all_rounds, slow_round

# For each side a line with two askers in each part: how many askers, where the pointer is and who is watched.
LINES = {"home": (5, None, 2), "low": (8, 2, 5), "here": (5, 2, 2), "high": (8, 5, 2)}
POINTED = ("low", "here", "high")

# The rounds from each mode and side of a rule with a text, as they are asked for again and again.
KEPT = {}


class SlowLine:
    """All states of a rule that come about in a line, each with all rounds that can follow."""

    def __init__(self, rule, askers):
        self.askers = askers
        self.ahead = {(rule.first, None): 0}
        self.links = {}
        states = list(self.ahead)
        for state in states:
            self.links[state] = []
            for asking in all_rounds(askers):
                granted, _, mode, pointer = slow_round(rule, askers, *state, asking)
                self.links[state].append((asking, granted, (mode, pointer)))
                if (mode, pointer) not in self.ahead:
                    self.ahead[(mode, pointer)] = self.ahead[state] + 1
                    states.append((mode, pointer))

    def fewest(self, fault):
        """The fewest rounds whose last one has the fault, or None."""
        found = [self.ahead[state] + 1 for state, links in self.links.items() for asking, granted, _ in links
                 if (len(granted) >= 2 if fault == "two" else asking and not granted)]
        return min(found, default=None)

    def waits(self):
        """The greatest number of rounds one behind another in which one asker asks in vain, or None."""
        found = [self.waits_of(asker) for asker in range(self.askers)]
        return None if None in found else max(found)

    def waits_of(self, asker):
        left = set(self.links)
        for rounds in range(len(self.links) + 1):
            # Those states are left from which one round more can be in vain.
            left = {state for state, links in self.links.items()
                    if any(asker in asking and asker not in granted and behind in left
                           for asking, granted, behind in links)}
            if not left:
                return rounds
        return None


def side_of(pointer, watched):
    if pointer is None:
        return "home"
    return "here" if pointer == watched else "low" if pointer < watched else "high"


def slow_rounds(rule, spot):
    """All rounds from a mode and side: who asks, who is granted, mode and pointer behind."""
    key = (str(rule), spot)
    if key not in KEPT:
        askers, pointer, _ = LINES[spot[1]]
        KEPT[key] = []
        for asking in all_rounds(askers):
            granted, _, mode, behind = slow_round(rule, askers, spot[0], pointer, asking)
            KEPT[key].append((asking, granted, mode, behind))
    return KEPT[key]


def slow_behind(rule, spot):
    """The modes and sides behind all rounds from a mode and side."""
    found = set()
    for _, _, mode, pointer in slow_rounds(rule, spot):
        found |= {(mode, "home")} if pointer is None else {(mode, side) for side in POINTED}
    return found


def slow_steps(rule, spot):
    """The steps in vain from a mode and side: each with mode and side behind it."""
    side = spot[1]
    _, pointer, watched = LINES[side]
    found = set()
    for asking, granted, mode, behind in slow_rounds(rule, spot):
        if watched in asking and watched not in granted:
            if behind == pointer:
                name = "still"
            elif side_of(behind, watched) != side:
                name = "jump"
            else:
                name = "up" if behind > pointer else "down"
            found.add((name, (mode, side_of(behind, watched))))
    return found


def slow_spots(rule):
    """All modes and sides that come about."""
    found = {(rule.first, "home")}
    while True:
        more = found.union(*[slow_behind(rule, spot) for spot in found])
        if more == found:
            return found
        found = more


def slow_endless(rule):
    """Whether some steps lead back to a mode and side that come about, as point 14 says."""
    spots = slow_spots(rule)
    steps = {spot: slow_steps(rule, spot) for spot in spots}
    for start in spots:
        walks = [(start, frozenset())]
        for spot, names in walks:
            for name, behind in steps[spot]:
                walk = (behind, names | ({name} - {"still"}))
                if behind == start and (not walk[1] or "jump" in walk[1] or len(walk[1]) == 2):
                    return True
                if walk not in walks:
                    walks.append(walk)
    return False


def slow_happens(rule, fault):
    """Whether a fault of one round happens for some number of askers."""
    return any(len(granted) >= 2 if fault == "two" else bool(asking) and not granted
               for spot in slow_spots(rule) for asking, granted, _, _ in slow_rounds(rule, spot))


def slow_right(rule, entries):
    """Whether entries of the right form are a right paper, as point 18 says."""
    paper = {(mode, side): (stage, way, rank) for mode, side, stage, way, rank in entries}
    if len(paper) != len(entries) or (rule.first, "home") not in paper:
        return False
    for spot, (stage, way, rank) in paper.items():
        if not slow_behind(rule, spot) <= set(paper):
            return False
        for name, behind in slow_steps(rule, spot):
            stage_behind, way_behind, rank_behind = paper[behind]
            same = (stage_behind, behind[1], way_behind) == (stage, spot[1], way)
            onward = name == way or (name == "still" and rank_behind < rank)
            if not (stage_behind < stage or (same and onward)):
                return False
    return True


def random_rules(count, seed):
    """Rules of up to four modes and twelve rows: rows by chance, and in most of them a tail for each mode."""
    chance = random.Random(seed)
    tails = (("past", "all"), ("past", "all"), ("under", "all"), ("all",), ("past", "under", "all"), ("at", "all"))
    rules = []
    for at in range(count):
        modes = "abcd"[:chance.choice((1, 2, 2, 3, 4))]
        rows = [Row(chance.choice(modes), chance.choice(PICKS), chance.choice(MOVES), chance.choice(modes),
                    chance.random() < 0.25) for _ in range(chance.choice((0, 0, 1, 2, 3, 4)))]
        for mode, pick in product(modes, chance.choice(tails)) if at % 4 else ():
            rows.append(Row(mode, pick, chance.choice(("on", "on", "on", "home")), chance.choice(modes)))
        rules.append(Rule("a", rows[:12]))
    return rules


def slow_parting(p, q, askers, starts):
    """The fewest rounds from some pairs of states to one in which two rules grant unlike, or None."""
    ahead = {start: 0 for start in starts}
    pairs = list(starts)
    for mine, other in pairs:
        for asking in all_rounds(askers):
            granted, _, *state = slow_round(p, askers, *mine, asking)
            others, _, *other_state = slow_round(q, askers, *other, asking)
            if granted != others:
                return ahead[(mine, other)] + 1
            behind = (tuple(state), tuple(other_state))
            if behind not in ahead:
                ahead[behind] = ahead[(mine, other)] + 1
                pairs.append(behind)
    return None


def slow_kin(rule, askers):
    """The classes of those modes that grant alike in lines of up to so many askers."""
    classes = []
    for mode in rule.modes:
        for mates in classes:
            if all(slow_parting(rule, rule, many, [((mode, pointer), (mates[0], pointer))]) is None
                   for many in range(1, askers + 1) for pointer in (None, *range(many))):
                mates.append(mode)
                break
        else:
            classes.append([mode])
    return tuple(tuple(mates) for mates in classes)


class SlowLevels:
    """All states of a rule for groups, and of the rules of all groups, each with all rounds that can follow.

    A state is a tuple of pairs of mode and pointer: that of the top rule, then those of the groups. The rounds are
    given as tuples of numbers of pairs.
    """

    def __init__(self, top, leaf, groups, size, rounds):
        self.top = top
        self.leaf = leaf
        self.groups = groups
        self.size = size
        self.pairs = list(product(range(groups), range(size)))
        start = ((top.first, None),) + ((leaf.first, None),) * groups
        self.links = {}
        left = [start]
        for state in left:
            if state not in self.links:
                self.links[state] = []
                for picked in rounds:
                    asking = [self.pairs[at] for at in picked]
                    granted, behind = self.turn(state, asking)
                    self.links[state].append((asking, granted, behind))
                    left.append(behind)

    def turn(self, state, asking):
        """Who is granted in a round, and the state behind it."""
        states = list(state)
        groups, _, mode, pointer = slow_round(self.top, self.groups, *state[0], [group for group, _ in asking])
        states[0] = (mode, pointer)
        granted = []
        for group in sorted(groups):
            there = [place for other, place in asking if other == group]
            places, _, mode, pointer = slow_round(self.leaf, self.size, *state[1 + group], there)
            states[1 + group] = (mode, pointer)
            granted += [(group, place) for place in sorted(places)]
        return tuple(granted), tuple(states)

    def play(self, rounds):
        """What is granted in each of some rounds."""
        state = ((self.top.first, None),) + ((self.leaf.first, None),) * self.groups
        grants = []
        for asking in rounds:
            granted, state = self.turn(state, asking)
            grants.append(granted)
        return tuple(grants)

    def waits(self):
        """The greatest number of rounds in which one asker asks in vain, or None."""
        found = [self.waits_of(pair) for pair in self.pairs]
        return None if None in found else max(found)

    def waits_of(self, pair):
        vain = {state: {behind for asking, granted, behind in links if pair in asking and pair not in granted}
                for state, links in self.links.items()}
        left = set(vain)
        for rounds in range(len(vain) + 1):
            left = {state for state in left if vain[state] & left}
            if not left:
                return rounds
        return None
