"""Live lines: a rule at work, round by round."""

from lineturns.errors import InvalidRound, Refused
from lineturns.rounds import is_round, play_round


class Trial:
    """A context manager behind whose block a line is as it was when the block was entered."""

    def __init__(self, line):
        self.line = line

    def __enter__(self):
        line = self.line
        self.rule = line.rule
        self.mode = line.mode
        self.pointer = line.pointer
        # Copies, for within the block the line can also take back what was done ahead of it.
        self.asked = list(line.asked)
        self.marks = list(line.marks)
        return line

    def __exit__(self, kind, value, trace):
        line = self.line
        line.rule = self.rule
        line.mode = self.mode
        line.pointer = self.pointer
        line.asked = self.asked
        line.marks = self.marks


class Line:
    """A line of askers and the rule that is at work in it.

    `asked` is the list of all rounds so far. `marks` has, for each thing that can be taken back, what was so ahead of
    it: rule, mode, pointer and the number of rounds.
    """

    def __init__(self, rule, askers):
        self.rule = rule
        self.askers = askers
        self.mode = rule.first
        self.pointer = None
        self.asked = []
        self.marks = []

    @property
    def rounds(self):
        """The tuple of all rounds so far, as ascending tuples."""
        return tuple(self.asked)

    def ask(self, asking):
        """Do a round; returns the ascending tuple of those that are granted."""
        if not is_round(asking, self.askers):
            raise InvalidRound(len(self.asked))
        self.mark()
        return self.granted_to(asking)

    def __iadd__(self, other):
        self.ask(other)
        return self

    def several(self, rounds):
        """Do all rounds of a sequence, or none if one is wrong; returns the tuple of what is granted in each."""
        for at, asking in enumerate(rounds):
            if not is_round(asking, self.askers):
                raise Refused(at) from InvalidRound(len(self.asked) + at)
        self.mark()
        return tuple([self.granted_to(asking) for asking in rounds])

    def change(self, rule):
        """Have another rule from now on, which begins anew."""
        self.mark()
        self.rule = rule
        self.mode = rule.first
        self.pointer = None

    def undo(self):
        """Take back what was done last; returns whether there was anything."""
        if not self.marks:
            return False
        self.rule, self.mode, self.pointer, many = self.marks.pop()
        del self.asked[many:]
        return True

    def __len__(self):
        return len(self.marks)

    def trial(self):
        """A new context manager, behind whose block all is as it was."""
        return Trial(self)

    def within(self, work):
        """Call something with the line in such a block; returns what it returns."""
        with self.trial() as line:
            return work(line)

    def mark(self):
        """Keep what is so now, so that what comes next can be taken back."""
        self.marks.append((self.rule, self.mode, self.pointer, len(self.asked)))

    def granted_to(self, asking):
        """Do a right round."""
        asked = tuple(sorted(asking))
        granted, _, self.mode, self.pointer = play_round(self.rule, self.mode, self.pointer, asked)
        self.asked.append(asked)
        return granted
