"""How many rounds in vain each asker in the way of the pointer is worth, where there are very many askers."""

from math import gcd, lcm

from lineturns.steps import mates, way_of

# The pointer takes a side from one end to the other: no place between them is better than both.
ENDS = (0, 1)


def growth_of(steps):
    """The limit of the waits in one asker, as a pair in lowest terms, of a rule that is not endless."""
    rates = rates_of(steps)
    shared = 1
    for _, moves in rates.values():
        shared = lcm(shared, moves)
    worths = {spot: rates[spot][0] * (shared // rates[spot][1]) for spot in rates}
    # Past the watched asker the pointer only goes up, and it never comes back there. So all askers are best
    # on one side of the watched one.
    high = [worths[spot] for spot in steps.spots if spot[1] == "high"]
    low = list(sums_below(steps, worths).values())
    most = max([*high, *low])
    common = gcd(most, shared)
    return most // common, shared // common


def rates_of(steps):
    """For each spot the greatest rate of the ways round it and its mates: rounds and moves; (0, 1) without any."""
    rates = {}
    for spot in steps.spots:
        if spot not in rates:
            near = {mate: True for mate in mates(steps, spot)}
            rate = rate_among(steps, near)
            for mate in near:
                rates[mate] = rate
    return rates


def rate_among(steps, near):
    """The greatest rate of the ways round some mates."""
    best = (0, 1)
    for start in near:
        best = greater_rate(best, rate_from(steps, near, start))
    return best


def rate_from(steps, near, start):
    """The greatest rate of the ways round from a spot, among its mates, with at most as many rounds as mates."""
    best = (0, 1)
    fewest = {start: 0}
    for rounds in range(1, len(near) + 1):
        fewest = fewest_moves(steps, near, fewest)
        if start in fewest:
            best = greater_rate(best, (rounds, fewest[start]))
    return best


def fewest_moves(steps, near, fewest):
    """The fewest moves of the pointer up to each spot, after one more round."""
    found = {}
    for spot in fewest:
        for name, behind in steps.links[spot]:
            if behind in near:
                moves = fewest[spot] + (0 if name == "still" else 1)
                found[behind] = min(moves, found.get(behind, moves))
    return found


def greater_rate(one, other):
    """The greater one of two rates."""
    return other if other[0] * one[1] > one[0] * other[1] else one


def sums_below(steps, worths):
    """The greatest worth of all walks at home and low, from each spot and end on, where the watched asker is last."""
    sums = {}
    spots = [(len(steps.reach[spot]), spot) for spot in steps.spots if spot[1] in ("home", "low")]
    # Steps lead only to mates and to spots that reach fewer, so those stand ahead.
    for _, spot in sorted(spots):
        for end in ENDS:
            sums[(spot, end)] = sum_from(steps, worths, sums, spot, end)
    return sums


def sum_from(steps, worths, sums, spot, end):
    """The greatest worth of the walks from a spot and end on."""
    ways = [worths[spot] * abs(there - end) + sum_behind(steps, sums, spot, there)
            for there in ends_behind(way_of(steps, spot), end)]
    return max(ways)


def sum_behind(steps, sums, spot, end):
    """The greatest worth of the walks that leave a spot and its mates at an end."""
    leaving = [link for mate in mates(steps, spot) for link in steps.links[mate] if spot not in steps.reach[link[1]]]
    return max([0, *[sums[(behind, there)] for name, behind in leaving for there in ends_behind(name, end)]])


def ends_behind(name, end):
    """The ends at which the pointer can be behind steps of this name."""
    if name == "jump":
        return ENDS
    if name == "up":
        return ENDS[end:]
    if name == "down":
        return ENDS[:end + 1]
    return (end,)
