"""Values that the tests share, and a slow second way to play a round."""

from lineturns.errors import InvalidRow, NoRow
from lineturns.rounds import play
from lineturns.rows import Row
from lineturns.rules import Rule

PICKS = ("keep", "at", "past", "under", "all")
MOVES = ("stay", "on", "home")

NAMES = ("a", "z", "run", "four", "all", "als", "alsp")
NO_NAMES = ("also", "", "fiver", "Run", "ruN", "a b", " a", "a ", "a\n", "r2", "1", "a-b", "a_b", "\xe4", "\u03b1",
            "\uff41")

FAIR = "first run\nrun past on run\nrun all on run"
FIXED = "first run\nrun all stay run"


def deep(depth):
    """A list of lists, so many deep."""
    value = []
    for _ in range(depth - 1):
        value = [value]
    return value


def other_values():
    """Values of every kind but the strings, each new."""
    row = Row("run", "all", "on", "run")
    rule = Rule("run", (row,))
    return [
        None, True, False, 0, 1, 2, -1, 10 ** 30, -(10 ** 30), [], (), [0], (0,), [[0]], ((0,),), ["run"], ("run",),
        [None], [True], [[]], [()], deep(8), row, [row], (row, row), [row, "run"], rule, [rule], play(rule, 2, [[1]]),
        InvalidRow("mode"), NoRow(3), [("run", "all", "on", "run")],
    ]


def any_values():
    """Values of every kind, each new."""
    return other_values() + list(NAMES) + list(NO_NAMES) + list(PICKS) + list(MOVES)


def region(pick, pointer, askers):
    """All askers in the region of a pick, read off the table of the document."""
    everybody = list(range(askers))
    if pointer is None:
        return {"keep": [], "at": everybody, "past": everybody, "under": [], "all": everybody}[pick]
    return {
        "keep": everybody[pointer:pointer + 1],
        "at": everybody[pointer:],
        "past": everybody[pointer + 1:],
        "under": everybody[:pointer],
        "all": everybody,
    }[pick]


def slow_play(rule, askers, rounds):
    """The attributes of what is played, in their order, done by the words of the document."""
    mode, pointer = rule.first, None
    grants, done, modes, pointers, faults = [], [], [mode], [pointer], set()
    for asking in rounds:
        grant_of = {}
        for at, row in enumerate(rule.rows):
            there = [asker for asker in region(row.pick, pointer, askers) if asker in asking]
            if row.mode == mode and there:
                grant_of[at] = min(there)
        first = min(grant_of, default=None)
        granted = {asker for at, asker in grant_of.items() if at == first or rule.rows[at].also}
        if first is not None:
            pointer = {"stay": pointer, "on": grant_of[first], "home": None}[rule.rows[first].move]
            mode = rule.rows[first].then
        grants.append(tuple(sorted(granted)))
        done.append(first)
        modes.append(mode)
        pointers.append(pointer)
        faults |= {"none"} if asking and not granted else set()
        faults |= {"two"} if len(granted) >= 2 else set()
    return tuple(grants), tuple(done), tuple(modes), tuple(pointers), tuple(sorted(faults))
