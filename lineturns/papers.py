"""Papers: they show that no asker can ask in vain for ever."""

from lineturns.checks import is_whole
from lineturns.parts import SIDES
from lineturns.steps import Steps, is_endless, spots_behind, steps_from, way_of


def paper(rule):
    """Some right paper, or None if "endless" happens."""
    steps = Steps(rule)
    if is_endless(steps):
        return None
    return tuple([entry_of(steps, spot) for spot in steps.spots])


def paper_holds(rule, value):
    """Whether any value is a right paper."""
    if not isinstance(value, tuple) or not all([is_entry(rule, thing) for thing in value]):
        return False
    entries = {(mode, side): (stage, way, rank) for mode, side, stage, way, rank in value}
    if len(entries) < len(value) or (rule.first, "home") not in entries:
        return False
    if not all([is_closed(rule, entries, spot) for spot in entries]):
        return False
    return all([is_ordered(rule, entries, spot) for spot in entries])


def entry_of(steps, spot):
    """The entry of a spot."""
    mode, side = spot
    way = "down" if way_of(steps, spot) == "down" else "up"
    # What a step leads to reaches no more than the spot itself; if it is no mate, it reaches fewer.
    return mode, side, len(steps.reach[spot]), way, len(steps.rest[spot])


def is_entry(rule, value):
    """Whether a value has the form of an entry."""
    if not isinstance(value, tuple) or len(value) != 5:
        return False
    mode, side, stage, way, rank = value
    if mode not in rule.modes or side not in list(SIDES) or way not in ("up", "down"):
        return False
    return is_whole(stage) and stage >= 0 and is_whole(rank) and rank >= 0


def is_closed(rule, entries, spot):
    """Whether all that rounds lead to from a spot stands in the entries."""
    # A round in which nobody asks leads from a pointed side to all three of them.
    return all([behind in entries for behind in spots_behind(rule, spot)])


def is_ordered(rule, entries, spot):
    """Whether all steps in vain from a spot lead onward."""
    return all([leads_onward(entries, spot, name, behind) for name, behind in steps_from(rule, spot)])


def leads_onward(entries, spot, name, behind):
    """Whether a step leads to a lesser stage, or goes on in this one by its way or to a lesser rank."""
    stage, way, rank = entries[spot]
    next_stage, next_way, next_rank = entries[behind]
    if next_stage != stage:
        return next_stage < stage
    if next_way != way or spot[1] != behind[1]:
        return False
    return name == way or (name == "still" and next_rank < rank)
