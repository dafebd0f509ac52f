"""The errors of the package. Each keeps its arguments in attributes."""


class LineError(ValueError):
    """The base class of the errors that are wrong values."""


class InvalidRow(LineError):
    """The parameter `word` of a row is wrong."""

    def __init__(self, word):
        self.word = word


class InvalidRule(LineError):
    """The parameter `word` of a rule is wrong."""

    def __init__(self, word):
        self.word = word


class InvalidText(LineError):
    """Line `at` of the text of a rule is wrong."""

    def __init__(self, at):
        self.at = at


class InvalidRound(LineError):
    """Thing `at` in a row of rounds is no round."""

    def __init__(self, at):
        self.at = at


class InvalidFault(LineError):
    """A value is not a fault that the function takes."""


class InvalidCommand(LineError):
    """A value is no command of a desk."""


class Refused(LineError):
    """Thing `at` in a sequence was wrong, so none of it was done."""

    def __init__(self, at):
        self.at = at


class NoRow(IndexError):
    """A rule has no row with the number `at`."""

    def __init__(self, at):
        self.at = at
