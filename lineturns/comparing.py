"""Whether two rules, or two modes of a rule, always grant alike, and what a rule can do without."""

from lineturns.courses import PartTable
from lineturns.pairs import fewest_to_parting, in_a_line
from lineturns.rows import Row
from lineturns.rules import Rule


def alike(p, q):
    """Whether two rules have the same grants for every number of askers and every row of rounds."""
    return parting_of(p, q) is None


def least_parting(p, q):
    """Some pair of a number of askers and the fewest rounds in the last of which the grants are unlike, or None."""
    rounds = parting_of(p, q)
    return None if rounds is None else in_a_line(rounds)


def needless(rule):
    """The ascending tuple of the numbers of the rows without which, each alone, the rule is alike."""
    return tuple([at for at in range(len(rule)) if alike(rule, rule.without(at))])


def kin(rule):
    """The ascending tuple of all classes of kin modes."""
    table = PartTable(rule)
    classes = []
    for mode in rule.modes:
        found = [at for at, mates in enumerate(classes) if are_kin(table, mates[0], mode)]
        if found:
            classes[found[0]].append(mode)
        else:
            classes.append([mode])
    return tuple([tuple(mates) for mates in classes])


def merged(rule):
    """The rule with one mode of each class of kin modes."""
    chief = {mode: mates[0] for mates in kin(rule) for mode in mates}
    rows = [Row(row.mode, row.pick, row.move, chief[row.then], row.also)
            for row in rule.rows if chief[row.mode] == row.mode]
    return Rule(chief[rule.first], rows)


def parting_of(p, q):
    """The fewest rounds, told by parts, in the last of which the grants of two rules are unlike; or None."""
    return fewest_to_parting((PartTable(p), PartTable(q)), [(p.first, None, q.first, None)])


def are_kin(table, mode, other):
    """Whether two modes are kin: with both pointers at home, or at any asker."""
    starts = [(mode, None, other, None), (mode, 1, other, 1)]
    return fewest_to_parting((table, table), starts) is None
