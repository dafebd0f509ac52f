"""Rounds in which some askers ask, and what a rule does with them."""

from lineturns.checks import is_below, is_sequence
from lineturns.errors import InvalidRound
from lineturns.rows import in_region, moved


class Played:
    """What a rule did with a row of rounds; `play` makes it."""

    def __init__(self, grants, done, modes, pointers, faults):
        self.grants = grants
        self.done = done
        self.modes = modes
        self.pointers = pointers
        self.faults = faults


def play(rule, askers, rounds):
    """Play a row of rounds with a rule, from its first mode and the pointer at home."""
    asked = ascending_rounds(rounds, lambda asking: is_round(asking, askers))
    grants = []
    done = []
    modes = [rule.first]
    pointers = [None]
    for asking in asked:
        granted, at, mode, pointer = play_round(rule, modes[-1], pointers[-1], asking)
        grants.append(granted)
        done.append(at)
        modes.append(mode)
        pointers.append(pointer)
    faults = faults_of(asked, grants)
    return Played(tuple(grants), tuple(done), tuple(modes), tuple(pointers), faults)


def ascending_rounds(rounds, is_right):
    """The list of the rounds as ascending tuples, if a value is a sequence of rounds that are right."""
    if not is_sequence(rounds):
        raise InvalidRound(0)
    for at, asking in enumerate(rounds):
        if not is_right(asking):
            raise InvalidRound(at)
    return [tuple(sorted(asking)) for asking in rounds]


def is_round(value, askers):
    """Whether a value is a round of so many askers."""
    if not is_sequence(value) or not all([is_below(asker, askers) for asker in value]):
        return False
    return len(set(value)) == len(value)


def play_round(rule, mode, pointer, asking):
    """Whom a round grants, the number of the row that is done, and mode and pointer behind it.

    The askers that ask are ascending, so that a row grants the first of them in its region.
    """
    done = None
    granted = []
    for at, row in enumerate(rule.rows):
        if done is not None and not row.also:
            continue
        asker = granted_by(row, mode, pointer, asking)
        if asker is None:
            continue
        if done is None:
            done = at
        granted.append(asker)
    if done is None:
        return (), None, mode, pointer
    row = rule.rows[done]
    return tuple(sorted(set(granted))), done, row.then, moved(row.move, pointer, granted[0])


def granted_by(row, mode, pointer, asking):
    """The asker that a row grants, or None if the row does not fit."""
    if row.mode != mode:
        return None
    for asker in asking:
        if in_region(row.pick, pointer, asker):
            return asker
    return None


def faults_of(asked, grants):
    """The ascending tuple of the faults that some round has."""
    found = [round_fault(asking, granted) for asking, granted in zip(asked, grants)]
    return tuple([fault for fault in ("none", "two") if fault in found])


def round_fault(asking, granted):
    """The fault of a round, or None; it cannot have both."""
    if asking and not granted:
        return "none"
    if len(granted) > 1:
        return "two"
    return None
