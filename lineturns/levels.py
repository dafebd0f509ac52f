"""Askers in groups: a top rule for the groups, and in each group a leaf rule for its askers."""

from lineturns.checks import is_below, is_sequence
from lineturns.courses import Course, PartTable, Vain, longest_walks, states_behind_free, states_behind_watched
from lineturns.rounds import ascending_rounds, play_round
from lineturns.steps import reached


def play_levels(top, leaf, groups, size, rounds):
    """The tuple of the pairs that are granted in each round of a row of rounds of pairs."""
    asked = ascending_rounds(rounds, lambda asking: is_round_of_pairs(asking, groups, size))
    mode = top.first
    pointer = None
    leaves = [(leaf.first, None)] * groups
    grants = []
    for asking in asked:
        granted, _, mode, pointer = play_round(top, mode, pointer, groups_in(asking))
        pairs = []
        for group in granted:
            places, leaves[group] = play_leaf(leaf, leaves[group], places_in(asking, group))
            pairs.extend([(group, place) for place in places])
        grants.append(tuple(pairs))
    return tuple(grants)


def levels(top, leaf, groups, size):
    """The greatest number of rounds in which one asker asks in vain, or None."""
    outer = Course(top, groups, PartTable(top))
    inner = Course(leaf, size, PartTable(leaf))
    longest = [wait_in_group(outer, inner, group) for group in range(groups)]
    return None if None in longest else max(longest)


def is_round_of_pairs(value, groups, size):
    """Whether a value is a round of so many groups of so many askers."""
    if not is_sequence(value) or not all([is_pair(thing, groups, size) for thing in value]):
        return False
    return len(set(value)) == len(value)


def is_pair(value, groups, size):
    """Whether a value is the pair of a group and a place in it."""
    if not isinstance(value, tuple) or len(value) != 2:
        return False
    return is_below(value[0], groups) and is_below(value[1], size)


def groups_in(asking):
    """The ascending tuple of the groups in which somebody asks."""
    return tuple(sorted({group for group, _ in asking}))


def places_in(asking, group):
    """The ascending tuple of the places in a group that ask, of an ascending round."""
    return tuple([place for other, place in asking if other == group])


def play_leaf(leaf, state, places):
    """Which places of a group are granted in a round, and mode and pointer of its rule behind it."""
    granted, _, mode, pointer = play_round(leaf, state[0], state[1], places)
    return granted, (mode, pointer)


def wait_in_group(outer, inner, group):
    """The greatest number of rounds in which one asker of a group asks in vain, or None.

    What the leaf rules of other groups do changes nothing here. So a pair of a state of the top rule and a state of the
    group's own leaf rule tells all.
    """
    passed = {state: states_behind_watched(outer, group, state, False) for state in outer.before}
    granted = {state: states_behind_watched(outer, group, state, True) for state in outer.before}
    free = {state: states_behind_free(inner, state) for state in inner.before}
    start = (list(outer.before)[0], list(inner.before)[0])
    pairs = list(reached(links_of_pairs(passed, granted, free), start))
    vain = Vain(outer, group).links
    longest = 0
    for place in range(inner.askers):
        links = links_of_pairs(vain, granted, Vain(inner, place).links)
        walks = longest_walks({pair: links[pair] for pair in pairs})
        if len(walks) < len(pairs):
            return None
        longest = max(longest, max(walks.values()))
    return longest


def links_of_pairs(passed, granted, moved):
    """The pairs behind a round, for each pair of states.

    The group is passed over, and its leaf rule does nothing, or it is granted, and its leaf rule moves.
    """
    links = {}
    for state in passed:
        for leaf in moved:
            links[(state, leaf)] = [(behind, leaf) for behind in passed[state]]
            links[(state, leaf)].extend([(behind, other) for behind in granted[state] for other in moved[leaf]])
    return links
