"""The rows of a rule."""

from lineturns.checks import is_name
from lineturns.errors import InvalidRow

PICKS = ("keep", "at", "past", "under", "all")
MOVES = ("stay", "on", "home")


class Row:
    """A row for a mode: whom it picks, how the pointer moves, and the mode that it leads to."""

    def __init__(self, mode, pick, move, then, also=False):
        if not is_name(mode):
            raise InvalidRow("mode")
        if pick not in PICKS:
            raise InvalidRow("pick")
        if move not in MOVES:
            raise InvalidRow("move")
        if not is_name(then):
            raise InvalidRow("then")
        if not isinstance(also, bool):
            raise InvalidRow("also")
        self.mode = mode
        self.pick = pick
        self.move = move
        self.then = then
        self.also = also

    def __eq__(self, other):
        return isinstance(other, Row) and str(self) == str(other)

    def __str__(self):
        if self.also:
            return f"{self.mode} {self.pick} {self.move} {self.then} also"
        return f"{self.mode} {self.pick} {self.move} {self.then}"


def read_row(line):
    """The row whose text the line is, or None if it is the text of no row."""
    words = line.split(" ")
    also = len(words) == 5 and words[4] == "also"
    if len(words) != 4 and not also:
        return None
    try:
        return Row(words[0], words[1], words[2], words[3], also)
    except InvalidRow:
        return None


def in_region(pick, pointer, asker):
    """Whether the asker is in the region of the pick; the pointer is None at home."""
    if pick == "all":
        return True
    if pointer is None:
        return pick in ("at", "past")
    if pick == "keep":
        return asker == pointer
    if pick == "at":
        return asker >= pointer
    if pick == "past":
        return asker > pointer
    return asker < pointer


def moved(move, pointer, granted):
    """The pointer behind a round in which the row with the move grants an asker."""
    if move == "on":
        return granted
    if move == "home":
        return None
    return pointer
