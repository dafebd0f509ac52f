"""The states of a rule in a line of some number of askers. A state is a pair of a mode and a pointer."""

from lineturns.parts import SIDES, part_rounds, side_of, vain_rounds


class PartTable:
    """The rounds of a rule, told by parts. They are kept, as many states share them."""

    def __init__(self, rule):
        self.rule = rule
        self.known = {}
        self.vain = {}

    def played(self, mode, pointer, parts):
        """What each round does in which some of the parts ask."""
        key = (mode, pointer, parts)
        if key not in self.known:
            self.known[key] = part_rounds(self.rule, mode, pointer, parts)
        return self.known[key]

    def played_in_vain(self, mode, side, parts):
        """Rounds in which the watched part asks in vain, one for each mode and pointer behind them."""
        key = (mode, side, parts)
        if key not in self.vain:
            _, pointer, watched = SIDES[side]
            found = {}
            for told in vain_rounds(self.played(mode, pointer, parts), watched):
                found[(told.mode, told.pointer)] = told
            self.vain[key] = list(found.values())
        return self.vain[key]


class Course:
    """The states that come about in a line of so many askers.

    `before` has them in the order of the fewest rounds that lead to them, and for each the state ahead of it and
    the round between the two; None for the first one.
    """

    def __init__(self, rule, askers, table):
        self.askers = askers
        self.table = table
        self.before = states_that_come_about(rule, askers, table)


class Vain:
    """The rounds in which one watched asker asks in vain.

    `links` has for each state that comes about those to which such a round leads. `waits` has the greatest number of
    such rounds from a state on; states from which there is no greatest number are not in it.
    """

    def __init__(self, course, watched):
        self.course = course
        self.watched = watched
        self.links = {state: states_behind_vain(course, watched, state) for state in course.before}
        self.waits = longest_walks(self.links)


def bounds_of(askers, marks):
    """The bounds of the parts of a line: those of the marked askers, and of all under, between and past them."""
    bounds = []
    low = 0
    for mark in marks:
        bounds.append((low, mark))
        bounds.append((mark, mark + 1))
        low = mark + 1
    bounds.append((low, askers))
    return bounds


def bounds_beside(askers, pointer, watched):
    """The bounds of the parts of a line in which an asker is watched."""
    if pointer is None or pointer == watched:
        return bounds_of(askers, [watched])
    return bounds_of(askers, sorted([pointer, watched]))


def filled(bounds):
    """The parts in which somebody stands."""
    return tuple([part for part, (low, high) in enumerate(bounds) if low < high])


def pointers_in(bounds, part):
    """Where the pointer can be if it is in a part; None is home."""
    if part is None:
        return [None]
    low, high = bounds[part]
    return list(range(low, high))


def round_of(bounds, asking, pointer):
    """A round in which one of each part asks: the one at which the pointer shall be, or else the first."""
    chosen = []
    for part in asking:
        low, high = bounds[part]
        there = pointer is not None and low <= pointer < high
        chosen.append(pointer if there else low)
    return tuple(chosen)


def free_rounds(table, askers, state):
    """The bounds of the parts ahead of a round of any askers, and what each round does."""
    mode, pointer = state
    if pointer is None:
        bounds = bounds_of(askers, [])
        return bounds, table.played(mode, None, filled(bounds))
    bounds = bounds_of(askers, [pointer])
    return bounds, table.played(mode, 1, filled(bounds))


def states_that_come_about(rule, askers, table):
    """Each state that comes about, as `Course` keeps them."""
    before = {(rule.first, None): None}
    states = list(before)
    at = 0
    while at < len(states):
        bounds, rounds = free_rounds(table, askers, states[at])
        for told in rounds:
            for pointer in pointers_in(bounds, told.pointer):
                if (told.mode, pointer) not in before:
                    before[(told.mode, pointer)] = (states[at], round_of(bounds, told.asking, pointer))
                    states.append((told.mode, pointer))
        at += 1
    return before


def rounds_to(course, state):
    """A tuple of the fewest rounds that lead to a state."""
    rounds = []
    before = course.before[state]
    while before is not None:
        ahead, asking = before
        rounds.append(asking)
        before = course.before[ahead]
    return tuple(rounds[::-1])


def states_behind(bounds, rounds):
    """The states behind some rounds, each once."""
    found = {}
    for told in rounds:
        for pointer in pointers_in(bounds, told.pointer):
            found[(told.mode, pointer)] = True
    return list(found)


def states_behind_free(course, state):
    """The states to which a round leads in which somebody asks."""
    bounds, rounds = free_rounds(course.table, course.askers, state)
    return states_behind(bounds, [told for told in rounds if told.asking])


def states_behind_watched(course, watched, state, granted):
    """The states to which a round leads in which the watched asker is granted, or else one in which it is not."""
    mode, pointer = state
    bounds = bounds_beside(course.askers, pointer, watched)
    _, part, watched_part = SIDES[side_of(pointer, watched)]
    rounds = course.table.played(mode, part, filled(bounds))
    return states_behind(bounds, [told for told in rounds if (watched_part in told.granted) == granted])


def vain_rounds_from(course, watched, state):
    """The bounds of the parts beside a watched asker, and rounds in which it asks in vain."""
    mode, pointer = state
    bounds = bounds_beside(course.askers, pointer, watched)
    return bounds, course.table.played_in_vain(mode, side_of(pointer, watched), filled(bounds))


def states_behind_vain(course, watched, state):
    """The states to which a round leads in which the watched asker asks in vain."""
    bounds, rounds = vain_rounds_from(course, watched, state)
    return states_behind(bounds, rounds)


def vain_round_between(vain, state, behind):
    """A round in vain that leads from a state to another one of its links."""
    mode, pointer = behind
    bounds, rounds = vain_rounds_from(vain.course, vain.watched, state)
    for told in rounds:
        if told.mode == mode and pointer in pointers_in(bounds, told.pointer):
            return round_of(bounds, told.asking, pointer)
    return None


def rounds_along(vain, states):
    """A tuple of rounds in vain that lead from each of some states to the one behind it."""
    pairs = list(zip(states, states[1:]))
    return tuple([vain_round_between(vain, state, behind) for state, behind in pairs])


def longest_walks(links):
    """The greatest number of links from each state on; states from which there is none are left out."""
    ahead = {state: [] for state in links}
    for state in links:
        for behind in links[state]:
            ahead[behind].append(state)
    left = {state: len(links[state]) for state in links}
    ended = [state for state in links if not links[state]]
    longest = {}
    while ended:
        state = ended.pop()
        longest[state] = max([longest[behind] + 1 for behind in links[state]], default=0)
        for other in ahead[state]:
            left[other] -= 1
            if left[other] == 0:
                ended.append(other)
    return longest
