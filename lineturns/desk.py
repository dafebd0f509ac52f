"""Desks: a line that is worked by commands."""

from lineturns.deciding import faults
from lineturns.errors import InvalidCommand
from lineturns.line import Line
from lineturns.rules import Rule
from lineturns.waiting import growth, waits

MOST_IN_LINE = 40
MOST_WAITING = 16


def change_rule(desk, words):
    """`rule TEXT`: the number of rows."""
    if not words:
        raise InvalidCommand()
    rule = Rule.read(" ".join(words).replace(" ; ", "\n"))
    desk.line.change(rule)
    return str(len(rule))


def new_line(desk, words):
    """`line N`: the number of askers."""
    askers = number_among(words, MOST_IN_LINE)
    desk.line = Line(desk.line.rule, askers)
    return str(askers)


def ask_in_line(desk, words):
    """`ask A B ..`: the askers that are granted."""
    if not all([is_decimal(word) for word in words]):
        raise InvalidCommand()
    granted = desk.line.ask([asker_of(word, desk.line.askers) for word in words])
    return " ".join([str(asker) for asker in granted]) or "nobody"


def tell_faults(desk, words):
    """`faults`: those that happen."""
    check_alone(words)
    return " ".join(faults(desk.line.rule)) or "never"


def tell_waits(desk, words):
    """`waits N`: the waits for so many askers."""
    wait = waits(desk.line.rule, number_among(words, MOST_WAITING))
    return "endless" if wait is None else str(wait)


def tell_growth(desk, words):
    """`grows`: the growth."""
    check_alone(words)
    pair = growth(desk.line.rule)
    return "endless" if pair is None else f"{pair[0]} in {pair[1]}"


def take_back(desk, words):
    """`undo`: whether there was anything to take back."""
    check_alone(words)
    return "undone" if desk.line.undo() else "nothing"


# What is done for the first word of a command, with the desk and the list of the other words.
ACTIONS = {
    "rule": change_rule,
    "line": new_line,
    "ask": ask_in_line,
    "faults": tell_faults,
    "waits": tell_waits,
    "grows": tell_growth,
    "undo": take_back,
}


class Desk:
    """A desk with a line; it does commands."""

    def __init__(self):
        self.line = Line(Rule("run"), 1)

    def say(self, command):
        """Do a command; returns the text of its result."""
        first, *words = words_of(command)
        if first not in ACTIONS:
            raise InvalidCommand()
        action = ACTIONS[first]
        return action(self, words)


def words_of(command):
    """The list of the words of a command."""
    if not isinstance(command, str) or "\n" in command:
        raise InvalidCommand()
    words = command.split(" ")
    if "" in words:
        raise InvalidCommand()
    return words


def check_alone(words):
    """Raise an error if a command that stands alone has more words."""
    if words:
        raise InvalidCommand()


def number_among(words, most):
    """The number from 1 to some most one that is the only word."""
    if len(words) != 1 or words[0] not in [str(number) for number in range(1, most + 1)]:
        raise InvalidCommand()
    return int(words[0])


def is_decimal(word):
    """Whether a word is a number in decimal digits without leading zeros."""
    return word.isascii() and word.isdigit() and (word == "0" or not word.startswith("0"))


def asker_of(word, askers):
    """The asker with a number."""
    # A number of more digits is no asker, whatever it is, and may have more of them than Python reads.
    return int(word) if len(word) <= len(str(askers)) else askers
