"""Whether a rule has faults for some number of askers, and rounds of the fewest askers that show them."""

from lineturns.checks import is_below, is_whole
from lineturns.courses import Course, PartTable, Vain, free_rounds, round_of, rounds_along, rounds_to
from lineturns.errors import InvalidFault
from lineturns.parts import all_rounds
from lineturns.rounds import play, round_fault
from lineturns.steps import Steps, is_endless, spots_that_come_about

FAULTS = ("endless", "none", "two")
ROUND_FAULTS = ("none", "two")


def happens(rule, fault):
    """Whether for some number of askers some row of rounds has the fault."""
    if fault not in FAULTS:
        raise InvalidFault()
    if fault == "endless":
        return is_endless(Steps(rule))
    return any([has_fault(rule, spot, fault) for spot in spots_that_come_about(rule)])


def least(rule, fault):
    """The least number of askers for which the fault happens, or None."""
    if not happens(rule, fault):
        return None
    if fault == "endless":
        return least_ring(rule)[0]
    return least_history(rule, fault)[0]


def faults(rule):
    """The ascending tuple of the faults that happen."""
    return tuple([fault for fault in FAULTS if happens(rule, fault)])


def history(rule, fault):
    """Some pair of the least number of askers and of the fewest rounds whose last one has the fault, or None."""
    if fault not in ROUND_FAULTS:
        raise InvalidFault()
    if not happens(rule, fault):
        return None
    return least_history(rule, fault)


def ring(rule):
    """Some ring with the least number of askers, or None."""
    if not happens(rule, "endless"):
        return None
    return least_ring(rule)


def ring_holds(rule, value):
    """Whether any value is a ring of the rule."""
    if not is_ring_form(value):
        return False
    askers, asker, ahead, turn = value
    at = len(ahead)
    played = play(rule, askers, ahead + turn)
    if played.modes[at] != played.modes[-1] or played.pointers[at] != played.pointers[-1]:
        return False
    return all([asker in asking and asker not in granted for asking, granted in zip(turn, played.grants[at:])])


def has_fault(rule, spot, fault):
    """Whether some round from a mode and side has the fault."""
    mode, side = spot
    return fault in [round_fault(told.asking, told.granted) for told in all_rounds(rule, mode, side)]


def least_history(rule, fault):
    """The pair that `history` tells, of a fault that happens."""
    table = PartTable(rule)
    askers = 1
    rounds = rounds_to_fault(Course(rule, askers, table), fault)
    while rounds is None:
        askers += 1
        rounds = rounds_to_fault(Course(rule, askers, table), fault)
    return askers, rounds


def rounds_to_fault(course, fault):
    """The fewest rounds whose last one has the fault, or None."""
    # The states come in the order of the fewest rounds that lead to them, so the first one found will do.
    for state in course.before:
        bounds, rounds = free_rounds(course.table, course.askers, state)
        for told in rounds:
            if round_fault(told.asking, told.granted) == fault:
                return (*rounds_to(course, state), round_of(bounds, told.asking, None))
    return None


def least_ring(rule):
    """The ring that `ring` tells, of a rule that has one."""
    table = PartTable(rule)
    askers = 1
    found = ring_among(Course(rule, askers, table))
    while found is None:
        askers += 1
        found = ring_among(Course(rule, askers, table))
    return found


def ring_among(course):
    """A ring of so many askers, or None."""
    for watched in range(course.askers):
        vain = Vain(course, watched)
        states = states_round(vain)
        if states is not None:
            return course.askers, watched, rounds_to(course, states[0]), rounds_along(vain, states)
    return None


def states_round(vain):
    """States that rounds in vain lead round, with the first one again at the end, or None."""
    # A state without a greatest number of such rounds leads to another one of this kind.
    links = {state: [behind for behind in vain.links[state] if behind not in vain.waits]
             for state in vain.links if state not in vain.waits}
    if not links:
        return None
    walk = list(links)[:1]
    while walk[-1] not in walk[:-1]:
        walk.append(links[walk[-1]][0])
    return walk[walk.index(walk[-1]):]


def is_ring_form(value):
    """Whether a value has the form of a ring: tuples and integers in their bounds."""
    if not isinstance(value, tuple) or len(value) != 4:
        return False
    askers, asker, ahead, turn = value
    if not is_whole(askers) or not is_below(asker, askers):
        return False
    return are_strict_rounds(ahead, askers) and are_strict_rounds(turn, askers) and len(turn) > 0


def are_strict_rounds(value, askers):
    """Whether a value is a tuple of rounds that are strictly ascending tuples."""
    return isinstance(value, tuple) and all([is_strict_round(asking, askers) for asking in value])


def is_strict_round(value, askers):
    """Whether a value is a strictly ascending tuple of askers."""
    if not isinstance(value, tuple) or not all([is_whole(asker) for asker in value]):
        return False
    if not all([low < high for low, high in zip(value, value[1:])]):
        return False
    return len(value) == 0 or (0 <= value[0] and value[-1] < askers)
