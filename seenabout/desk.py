"""A desk: it answers lines that are said to it."""

from seenabout.charts import check_two, is_name, pair_number
from seenabout.errors import BadSay
from seenabout.journals import do_line, read_go, read_journal
from seenabout.logs import known
from seenabout.scripts import read_step

_LONGEST_LOG = 20
_SIDES = {1: "left", 0: "on", -1: "right"}


def _is_about_two(line):
    """Whether any value is a line side ONE OTHER or known ONE OTHER."""
    words = line.split(" ") if isinstance(line, str) else []
    return len(words) == 3 and words[0] in ("side", "known") and is_name(words[1]) and is_name(words[2])


class Desk:
    """A desk with the walker of a journal."""

    def __init__(self, text):
        self.walker = read_journal(text)

    def _side(self, one, other):
        """On which side of the line from one mark to another one the walker stands."""
        high = self.walker.chart.line(one, other).height(self.walker.point)
        return _SIDES[(high > 0) - (high < 0)]

    def _known(self, one, other):
        """What the log tells of this side, by its last rounds."""
        chart, log = self.walker.chart, self.walker.log
        check_two(chart, one, other)
        number = pair_number(chart, one, other)
        told = known(chart, log[-_LONGEST_LOG:])[number]
        if told is None:
            return "open"
        # What is known is told of the line from the mark that stands first.
        return _SIDES[told if (one, other) == chart.pairs[number] else -told]

    def _asked(self, line):
        """What is told of two marks."""
        word, one, other = line.split(" ")
        return self._side(one, other) if word == "side" else self._known(one, other)

    def say(self, line):
        """The answer to a line."""
        walker = self.walker
        if line == "round":
            return " ".join(["=".join(group) for group in walker.log[-1]])
        if line == "place":
            return walker.point.text
        if _is_about_two(line):
            return self._asked(line)
        if line == "undo":
            walker.undo()
        elif line == "redo":
            walker.redo()
        elif read_go(line) is not None or read_step(line) is not None:
            do_line(walker, line)
        else:
            raise BadSay(line)
        return "done"
