"""Steps in vain, for any number of askers: what the rounds do in which a watched asker asks and is not granted.

A spot is a pair of a mode and a side.
"""

from lineturns.parts import SIDES, all_rounds, side_of, vain_rounds

POINTED = ("low", "here", "high")


class Steps:
    """The spots of a rule that come about, and the steps in vain from them.

    `links` has the steps from each spot, as pairs of the step's name and the spot behind it. `reach` has for each
    spot all those to which some steps lead, itself included, and `rest` those to which still steps alone lead.
    """

    def __init__(self, rule):
        self.spots = spots_that_come_about(rule)
        self.links = {spot: steps_from(rule, spot) for spot in self.spots}
        self.reach = reach_of(self.links, ("still", "up", "down", "jump"))
        self.rest = reach_of(self.links, ("still",))


def spots_behind(rule, spot):
    """The spots to which some round leads, whoever asks.

    Any asker can be the watched one, so a pointed asker may be on each of its sides.
    """
    mode, side = spot
    found = {}
    for told in all_rounds(rule, mode, side):
        sides = ("home",) if told.pointer is None else POINTED
        for behind in sides:
            found[(told.mode, behind)] = True
    return list(found)


def spots_that_come_about(rule):
    """All spots that some rounds lead to, in a line that is long enough."""
    found = {(rule.first, "home"): True}
    left = [(rule.first, "home")]
    while left:
        spot = left.pop()
        for behind in spots_behind(rule, spot):
            if behind not in found:
                found[behind] = True
                left.append(behind)
    return sorted(list(found))


def steps_from(rule, spot):
    """The steps in vain from a spot, each once: pairs of the step's name and the spot behind it."""
    mode, side = spot
    _, pointer, watched = SIDES[side]
    found = {}
    for told in vain_rounds(all_rounds(rule, mode, side), watched):
        behind = side_of(told.pointer, watched)
        found[(step_name(pointer, told.pointer, side == behind), (told.mode, behind))] = True
    return list(found)


def step_name(before, behind, same_side):
    """The name of a step that takes the pointer from one part to another."""
    if before == behind:
        return "still"
    if not same_side:
        return "jump"
    return "up" if behind > before else "down"


def reach_of(links, names):
    """For each spot a dict of all spots to which steps with these names lead, itself included."""
    near = {spot: [behind for name, behind in links[spot] if name in names] for spot in links}
    return {spot: reached(near, spot) for spot in near}


def reached(near, start):
    """A dict of all that is reached from a start, itself included."""
    found = {start: True}
    left = [start]
    while left:
        spot = left.pop()
        for behind in near[spot]:
            if behind not in found:
                found[behind] = True
                left.append(behind)
    return found


def mates(steps, spot):
    """The spots to which steps lead from a spot, and from which steps lead back to it; itself included."""
    return [other for other in steps.reach[spot] if spot in steps.reach[other]]


def inner_links(steps, spot):
    """The steps from a spot from which others lead back to it."""
    return [(name, behind) for name, behind in steps.links[spot] if spot in steps.reach[behind]]


def names_around(steps, spot):
    """The names of all steps among a spot and its mates."""
    return [name for mate in mates(steps, spot) for name, _ in inner_links(steps, mate)]


def way_of(steps, spot):
    """The way that the pointer goes while steps lead round a spot and its mates, or None if none do."""
    names = names_around(steps, spot)
    if not names:
        return None
    return "down" if "down" in names else "up"


def is_endless(steps):
    """Whether some asker can ask in vain for ever."""
    return any([goes_round(steps, spot) for spot in steps.spots])


def goes_round(steps, spot):
    """Whether some steps lead back to a spot, and to the very place of the pointer."""
    names = names_around(steps, spot)
    if "jump" in names or ("up" in names and "down" in names):
        return True
    return any([name == "still" and spot in steps.rest[behind] for name, behind in steps.links[spot]])
