"""Values that the tests share, and a slow second way to play a round."""

from itertools import combinations

from lineturns.desk import Desk
from lineturns.errors import InvalidRow, NoRow
from lineturns.line import Line
from lineturns.rounds import play
from lineturns.rows import Row
from lineturns.rules import Rule

PICKS = ("keep", "at", "past", "under", "all")
MOVES = ("stay", "on", "home")

NAMES = ("a", "z", "run", "four", "all", "als", "alsp")
NO_NAMES = ("also", "", "fiver", "Run", "ruN", "a b", " a", "a ", "a\n", "r2", "1", "a-b", "a_b", "\xe4", "\u03b1",
            "\uff41")

FAIR = "first run\nrun past on run\nrun all on run"
FIXED = "first run\nrun all stay run"
BLIND = "first run\nrun past on run"
DOUBLE = "first run\nrun keep on run\nrun past on run also\nrun all on run"
WEIGHTED = "first one\none keep stay two\none past on one\none all on one\ntwo past on one\ntwo all on one"
TWIN = "first one\none past on two\none all on two\ntwo past on one\ntwo all on one"
# Whoever has the turn keeps it while asking.
LOCK = "first run\nrun keep stay run\nrun past on run\nrun all on run"
# Four modes and twelve rows, with every pick and move, and nobody waits for ever.
FULL = ("first a\na under on a\na all on c also\na keep home b also\nb past on c\nb all on a also\nb at stay b also\n"
        "c at on d\nc all on d\nc under home a also\nd keep on b\nd past on b\nd all on b")

# Two askers are granted at once only behind three rounds, where the third of four askers is pointed at.
LATE = ("first a\na all on b\nb past on c\nb all stay b\nc past on d\nc all stay c\n"
        "d past on a\nd all stay d also")
# The pointer goes up at least twice before it comes down.
STAIRS = "first a\na past on b\na all on a\nb past on c\nb all on a\nc under on a\nc past on c\nc all on c"

# Rules for which nobody waits for ever, each with its growth.
GROWTHS = (
    (FAIR, (1, 1)),
    (TWIN, (1, 1)),
    (WEIGHTED, (2, 1)),
    (FULL, (4, 1)),
    ("first a\na past on a also\na all home a", (1, 1)),
    ("first a\na at on b\na all on b\nb past on a\nb all home b", (2, 1)),
    ("first a\na under on a\na all on c\nb past on c\nb all on a also\nc at on b\nc all on b", (3, 1)),
    ("first a\na past on c also\na all on b\nb at on a\nb all on c\nc past on b\nc all home c", (3, 2)),
    ("first a\na past on d\na all on c\nb keep stay a\nb past on b\nb all home c\nc past on b\nc all home d\n"
     "d past on c also\nd all on d", (4, 3)),
    ("first a\na past on a\na all stay b\nb at on c\nb all on d\nc past on d also\nc all on c\nd under stay b\n"
     "d under on c\nd all home a", (4, 1)),
    ("first a\na past on a\na all on d also\na keep stay b also\nb past on c\nb all home a\nc under home a also\n"
     "c under on c\nc all on d\nd past on b also\nd all home d", (5, 2)),
    ("first a\na keep home c\na past on a\na all on d\nb under stay d\nb past on c also\nb all stay d\n"
     "c past on b\nc under on d\nc all on a also\nd past on c\nd under on a\nd all on b", (5, 2)),
    # At low the pointer goes down in `a`, stays behind it, and so cannot go down once more in `c`.
    ("first e\ne past on e\ne all on a\na under on a\na keep stay t\na past home e\nt keep stay c\nt under home e\n"
     "t past home e\nc under on c\nc all home e", (2, 1)),
    # Past the watched asker the pointer can stay once for each that it goes up, under it it cannot.
    ("first a\na past on a\na keep stay b\na all on a\nb past on a\nb all on a", (2, 1)),
    # At low the pointer goes down in two modes, one behind the other, and up in a third one.
    ("first x\nx all on a\na under on b\na past home c\na all home c\nb under on a\nb past home c\nb all home c\n"
     "c past on c\nc all on c", (2, 1)),
    ("first a\na past on a\na all on c\nb past on a\nb all on a\nc keep on d\nc past on b\nc all on d\nd past on c\n"
     "d all on b", (2, 1)),
    ("first a\na past stay c\na past on c\na all on d\nb past on a\nb all on a\nc past on d\nc all home b\n"
     "d keep on b\nd past on b\nd all on b", (2, 1)),
    # There are ways round of several rates.
    ("first a\na past on c\na all on b\nb keep stay c\nb past on c\nb all on b\nc keep stay d\nc past on b\n"
     "c all home b\nd past on a\nd under on c\nd all on d", (2, 1)),
    # Rounds that leave the pointer where it is lead to one mode or another.
    ("first a\na past stay c\na past on b\na all stay b\nb under home a\nb at on c\nb all on c\nc at on d\n"
     "c all home b\nd past on a\nd all home d", (3, 1)),
)
# Rules that have a fault, with the least numbers of askers for "endless", "none" and "two".
FAULTY = (
    ("first run", (1, 1, None)),
    (FIXED, (2, None, None)),
    (BLIND, (1, 1, None)),
    (DOUBLE, (2, None, 2)),
    (LOCK, (2, None, None)),
    (LATE, (2, None, 4)),
    ("first run\nrun all home run", (2, None, None)),
    ("first run\nrun at on run\nrun all on run", (2, None, None)),
    ("first run\nrun under on run\nrun all on run", (2, None, None)),
    ("first run\nrun keep on run", (1, 1, None)),
    ("first run\nrun under on run", (1, 1, None)),
    ("first a\na all on b", (1, 1, None)),
    ("first a\na all on b\nb under home a\nb past home a also\nb keep home a", (3, None, 3)),
    (STAIRS, (4, None, None)),
    # The pointer goes down from `a` to `b` and from `b` to `a`, and up in `a`.
    ("first a\na under on b\na past on a\na all on a\nb under on a\nb past home c\nb all home c\n"
     "c past on c\nc all on c", (4, None, None)),
    # Rounds that leave the pointer where it is lead to one mode or another.
    ("first a\na keep stay b\na at on b\na all on b\nb past stay b\nb past on a\nb all stay a also", (3, None, 2)),
    ("first a\na all on b\nb keep on b\nb past on b", (2, 2, None)),
    ("first a\na all on b\nb past on c\nb all stay b\nc keep stay a\nc under stay a", (2, 3, None)),
    ("first a\na all on b\nb keep stay a\nb past on b also\nb under stay c\nc keep on a also", (2, 2, 2)),
)


def deep(depth):
    """A list of lists, so many deep."""
    value = []
    for _ in range(depth - 1):
        value = [value]
    return value


def other_values():
    """Values of every kind but the strings, each new."""
    row = Row("run", "all", "on", "run")
    rule = Rule("run", (row,))
    return [
        None, True, False, 0, 1, 2, -1, 10 ** 30, -(10 ** 30), [], (), [0], (0,), [[0]], ((0,),), ["run"], ("run",),
        [None], [True], [[]], [()], deep(8), row, [row], (row, row), [row, "run"], rule, [rule], play(rule, 2, [[1]]),
        InvalidRow("mode"), NoRow(3), [("run", "all", "on", "run")], Line(rule, 2), Desk(), [Line(rule, 1)],
        Line(rule, 2).trial(),
    ]


def any_values():
    """Values of every kind, each new."""
    return other_values() + list(NAMES) + list(NO_NAMES) + list(PICKS) + list(MOVES)


def region(pick, pointer, askers):
    """All askers in the region of a pick, read off the table of the document."""
    everybody = list(range(askers))
    if pointer is None:
        return {"keep": [], "at": everybody, "past": everybody, "under": [], "all": everybody}[pick]
    return {
        "keep": everybody[pointer:pointer + 1],
        "at": everybody[pointer:],
        "past": everybody[pointer + 1:],
        "under": everybody[:pointer],
        "all": everybody,
    }[pick]


def all_rounds(askers):
    """All rounds of a line, each as an ascending tuple."""
    return [asking for many in range(askers + 1) for asking in combinations(range(askers), many)]


def slow_round(rule, askers, mode, pointer, asking):
    """The set of the granted, the row that is done, mode and pointer behind a round, by the words of the document."""
    grant_of = {}
    for at, row in enumerate(rule.rows):
        there = [asker for asker in region(row.pick, pointer, askers) if asker in asking]
        if row.mode == mode and there:
            grant_of[at] = min(there)
    if not grant_of:
        return set(), None, mode, pointer
    first = min(grant_of)
    granted = {asker for at, asker in grant_of.items() if at == first or rule.rows[at].also}
    row = rule.rows[first]
    return granted, first, row.then, {"stay": pointer, "on": grant_of[first], "home": None}[row.move]


def slow_play(rule, askers, rounds):
    """The attributes of what is played, in their order."""
    mode, pointer = rule.first, None
    grants, done, modes, pointers, faults = [], [], [mode], [pointer], set()
    for asking in rounds:
        granted, first, mode, pointer = slow_round(rule, askers, mode, pointer, asking)
        grants.append(tuple(sorted(granted)))
        done.append(first)
        modes.append(mode)
        pointers.append(pointer)
        faults |= {"none"} if asking and not granted else set()
        faults |= {"two"} if len(granted) >= 2 else set()
    return tuple(grants), tuple(done), tuple(modes), tuple(pointers), tuple(sorted(faults))
