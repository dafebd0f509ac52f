"""How many rounds an asker can ask in vain, and how this number grows with the number of askers."""

from lineturns.courses import Course, PartTable, Vain, rounds_along, rounds_to
from lineturns.rates import growth_of
from lineturns.steps import Steps, is_endless


def waits(rule, askers):
    """The greatest number of rounds in which one asker asks in vain, or None."""
    worst = worst_vain(rule, askers)
    if worst is None:
        return None
    vain, state = worst
    return vain.waits[state]


def longest(rule, askers):
    """Some tuple of an asker, rounds ahead, and the most rounds in which it asks in vain; or None."""
    worst = worst_vain(rule, askers)
    if worst is None:
        return None
    vain, state = worst
    states = [state]
    while vain.waits[state] > 0:
        state = max(vain.links[state], key=lambda behind: vain.waits[behind])
        states.append(state)
    return vain.watched, rounds_to(vain.course, states[0]), rounds_along(vain, states)


def growth(rule):
    """The limit of the waits in one asker, as a pair of positive integers, or None."""
    steps = Steps(rule)
    if is_endless(steps):
        return None
    return growth_of(steps)


def least_worse(p, q, most):
    """The least number of askers, at most so many, for which one can wait longer by q than by p, or None."""
    for askers in range(1, most + 1):
        if is_longer(waits(q, askers), waits(p, askers)):
            return askers
    return None


def is_longer(wait, other):
    """Whether a wait is longer than another one; None is for ever."""
    if other is None:
        return False
    return wait is None or wait > other


def worst_vain(rule, askers):
    """The rounds in vain of an asker that waits longest, and the state from which it does; None if for ever."""
    course = Course(rule, askers, PartTable(rule))
    worst = None
    most = -1
    for watched in range(askers):
        vain = Vain(course, watched)
        if len(vain.waits) < len(vain.links):
            return None
        state = max(course.before, key=lambda one: vain.waits[one])
        if vain.waits[state] > most:
            most = vain.waits[state]
            worst = (vain, state)
    return worst
