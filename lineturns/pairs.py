"""Two rules side by side in one line of any length, with the same rounds.

A stand is a tuple of the mode and the pointer of the one rule, and of the mode and the pointer of the other one. The
pointed askers divide the line: the parts are they themselves and all under, between and past them. The pointers are
told by their parts, and are None at home. As a region is made of whole parts, both rules can be played by parts; and as
strangers can stand in every part, what the parts do is what the rules do in lines that are long enough.
"""

from lineturns.courses import bounds_of


def stand_behind(mine, other):
    """The stand behind a round, from what it does by the one rule and by the other one."""
    marks = marks_of(mine.pointer, other.pointer)
    return mine.mode, part_among(marks, mine.pointer), other.mode, part_among(marks, other.pointer)


def marks_of(pointer, other):
    """The ascending list of where two pointers are; a pointer at home is nowhere."""
    return sorted({place for place in (pointer, other) if place is not None})


def part_among(marks, place):
    """The part of a place if the marked places divide the line."""
    return None if place is None else 2 * marks.index(place) + 1


def rounds_of_both(tables, stand):
    """What each round does from a stand: pairs of what it does by the one rule and by the other one."""
    mode, pointer, other_mode, other_pointer = stand
    parts = tuple(range(2 * len(marks_of(pointer, other_pointer)) + 1))
    mine = tables[0].played(mode, pointer, parts)
    others = tables[1].played(other_mode, other_pointer, parts)
    return list(zip(mine, others))


def fewest_to_parting(tables, starts):
    """The fewest rounds, as such pairs, that lead from some stands to unlike grants; None if no rounds do."""
    before = {start: None for start in starts}
    stands = list(before)
    at = 0
    while at < len(stands):
        for mine, other in rounds_of_both(tables, stands[at]):
            if mine.granted != other.granted:
                return [*rounds_to_stand(before, stands[at]), (mine, other)]
            behind = stand_behind(mine, other)
            if behind not in before:
                before[behind] = (stands[at], (mine, other))
                stands.append(behind)
        at += 1
    return None


def rounds_to_stand(before, stand):
    """The list of the rounds that lead to a stand."""
    rounds = []
    link = before[stand]
    while link is not None:
        ahead, told = link
        rounds.append(told)
        link = before[ahead]
    return rounds[::-1]


def in_a_line(rounds):
    """A number of askers, and the rounds in a line of so many, both pointers being at home at first."""
    line = []
    pointers = (None, None)
    asked = []
    for mine, other in rounds:
        chosen = chosen_in(line, pointers, mine.asking)
        asked.append(list(chosen.values()))
        pointers = (name_behind(chosen, mine, pointers[0]), name_behind(chosen, other, pointers[1]))
    return len(line), tuple([tuple(sorted([line.index(name) for name in names])) for names in asked])


def chosen_in(line, pointers, asking):
    """A dict of one asker of each part that asks.

    The line is the list of its askers in order, each with the number of those who came before it as its name. If nobody
    stands in a part, somebody comes: that this one never asked until now has changed nothing.
    """
    marks = sorted({line.index(name) for name in pointers if name is not None})
    bounds = bounds_of(len(line), marks)
    chosen = {}
    # From the last part on, so that who comes does not move the bounds of those that are left.
    for part in asking[::-1]:
        low, high = bounds[part]
        if low == high:
            line.insert(low, len(line))
        chosen[part] = line[low]
    return chosen


def name_behind(chosen, told, name):
    """The name of the pointed asker behind a round, from its name ahead of it."""
    if told.pointer is None:
        return None
    return chosen.get(told.pointer, name)
