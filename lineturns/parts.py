"""Rounds told by the parts of the line in which somebody asks.

A region is made of whole parts, and a row grants the first asker of the first part of its region in which
somebody asks. So parts that are numbered in the order of the line are played just as askers are.
"""

from lineturns.rounds import play_round

# For each side of the pointer beside a watched asker: how many parts the line has, the part of the pointer,
# and the part of the watched asker.
SIDES = {"home": (3, None, 1), "low": (5, 1, 3), "here": (3, 1, 1), "high": (5, 3, 1)}


class PartRound:
    """A round told by parts: those that ask and are granted, and the mode and the pointer's part behind it."""

    def __init__(self, asking, granted, mode, pointer):
        self.asking = asking
        self.granted = granted
        self.mode = mode
        self.pointer = pointer


def side_of(pointer, watched):
    """The side of the pointer; both may be askers or parts, and the pointer None at home."""
    if pointer is None:
        return "home"
    if pointer == watched:
        return "here"
    return "low" if pointer < watched else "high"


def choices_of(parts):
    """All ascending choices from some ascending parts, none and all of them included."""
    choices = [()]
    for part in parts:
        choices = choices + [(*choice, part) for choice in choices]
    return choices


def part_rounds(rule, mode, pointer, parts):
    """What each round does in which just some of the parts ask, or nobody."""
    told = []
    for asking in choices_of(parts):
        granted, _, then, behind = play_round(rule, mode, pointer, asking)
        told.append(PartRound(asking, granted, then, behind))
    return told


def all_rounds(rule, mode, side):
    """What each round does from a mode and side, where somebody stands in each part."""
    many, pointer, _ = SIDES[side]
    return part_rounds(rule, mode, pointer, tuple(range(many)))


def vain_rounds(told, watched):
    """Those rounds in which the watched part asks and is not granted."""
    return [each for each in told if watched in each.asking and watched not in each.granted]
