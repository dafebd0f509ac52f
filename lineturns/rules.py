"""Rules: a first mode and rows."""

from lineturns.checks import is_below, is_name, is_sequence
from lineturns.errors import InvalidRule, InvalidText, NoRow
from lineturns.rounds import play
from lineturns.rows import Row, read_row


class Rule:
    """A written rule: the mode in which it begins, and its rows."""

    def __init__(self, first, rows=()):
        if not is_name(first):
            raise InvalidRule("first")
        if not is_row_sequence(rows):
            raise InvalidRule("rows")
        self.first = first
        self.rows = tuple(rows)
        self.modes = modes_of(first, rows)

    @classmethod
    def read(cls, text):
        """The rule with a text."""
        lines = text.split("\n")
        word, _, first = lines[0].partition(" ")
        if word != "first" or not is_name(first):
            raise InvalidText(0)
        rows = []
        for at in range(1, len(lines)):
            row = read_row(lines[at])
            if row is None:
                raise InvalidText(at)
            rows.append(row)
        return cls(first, rows)

    def without(self, at):
        """The rule without a row."""
        if not is_below(at, len(self.rows)):
            raise NoRow(at)
        return Rule(self.first, (*self.rows[:at], *self.rows[at + 1:]))

    def renamed(self, mode, other):
        """The rule with another name wherever a mode stands."""
        first = other if self.first == mode else self.first
        return Rule(first, [row_renamed(row, mode, other) for row in self.rows])

    def __call__(self, askers, rounds):
        return play(self, askers, rounds).grants

    def __len__(self):
        return len(self.rows)

    def __getitem__(self, at):
        if not is_below(at, len(self.rows)):
            raise NoRow(at)
        return self.rows[at]

    # Without this, Python would iterate over the rows by their numbers.
    def __iter__(self):
        raise TypeError("a rule is not iterable")

    def __add__(self, other):
        if not isinstance(other, Rule):
            return NotImplemented
        return Rule(self.first, (*self.rows, *other.rows))

    def __eq__(self, other):
        return isinstance(other, Rule) and str(self) == str(other)

    def __str__(self):
        lines = [str(row) for row in self.rows]
        return "\n".join([f"first {self.first}", *lines])


def is_row_sequence(value):
    """Whether a value is a sequence of rows."""
    return is_sequence(value) and all([isinstance(thing, Row) for thing in value])


def modes_of(first, rows):
    """The ascending tuple of the first mode and all modes that stand in the rows."""
    names = [first]
    for row in rows:
        names.append(row.mode)
        names.append(row.then)
    return tuple(sorted(set(names)))


def row_renamed(row, mode, other):
    """The row with another name wherever a mode stands in it."""
    here = other if row.mode == mode else row.mode
    then = other if row.then == mode else row.then
    return Row(here, row.pick, row.move, then, row.also)
