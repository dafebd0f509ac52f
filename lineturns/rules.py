"""Rules: a first mode and rows."""

from lineturns.checks import is_name, is_sequence
from lineturns.errors import InvalidRule, InvalidText
from lineturns.rounds import play
from lineturns.rows import Row, read_row


class Rule:
    """A written rule: the mode in which it begins, and its rows."""

    def __init__(self, first, rows=()):
        if not is_name(first):
            raise InvalidRule("first")
        if not is_row_sequence(rows):
            raise InvalidRule("rows")
        self.first = first
        self.rows = tuple(rows)
        self.modes = modes_of(first, rows)

    @classmethod
    def read(cls, text):
        """The rule with a text."""
        lines = text.split("\n")
        word, _, first = lines[0].partition(" ")
        if word != "first" or not is_name(first):
            raise InvalidText(0)
        rows = []
        for at in range(1, len(lines)):
            row = read_row(lines[at])
            if row is None:
                raise InvalidText(at)
            rows.append(row)
        return cls(first, rows)

    def __call__(self, askers, rounds):
        return play(self, askers, rounds).grants


def is_row_sequence(value):
    """Whether a value is a sequence of rows."""
    return is_sequence(value) and all([isinstance(thing, Row) for thing in value])


def modes_of(first, rows):
    """The ascending tuple of the first mode and all modes that stand in the rows."""
    names = [first]
    for row in rows:
        names.append(row.mode)
        names.append(row.then)
    return tuple(sorted(set(names)))
