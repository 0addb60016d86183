"""Walkers: somebody who goes from place to place, and writes down what is seen."""

from seenabout.errors import BadLine, BadPoint, Lost, NoTrial, NothingToRedo, NothingToUndo
from seenabout.points import Point
from seenabout.scripts import check_marks, read_step, step_end
from seenabout.sights import about
from seenabout.ways import seen_on


class Trial:
    """A block behind which a walker is as it was ahead of it, unless what was done in it is kept.

    kept is True from keep on, until then None.
    """

    def __init__(self, walker):
        self.walker = walker
        self.state = None
        self.around = None
        self.kept = None

    def __enter__(self):
        self.state = self.walker.state
        self.around = self.walker.innermost
        self.walker.innermost = self
        return self.walker

    def __exit__(self, kind, value, trace):
        if kind is not None or self.kept is None:
            self.walker.state = self.state
        self.walker.innermost = self.around


def lines_of(walker):
    """What the journal of a walker has behind the chart, line by line."""
    return [f"at {walker.first.text}"] + [line for line, _, _ in walker.state[0]]


class Walker:
    """Somebody who stands at this place of a chart.

    A deed is (its line in a journal, the Point to which it led, the rounds that
    came to the log by it). state is (deeds that stand, deeds that were taken
    back, the last one last): it is never changed, but replaced by another one.
    innermost is the trial in which the walker is, None outside of all.
    """

    def __init__(self, chart, point):
        begun = about(chart, point)
        self.chart = chart
        self.first = point
        self.begun = begun
        self.state = ((), ())
        self.innermost = None

    @property
    def point(self):
        """Where they are now."""
        deeds = self.state[0]
        return deeds[-1][1] if deeds else self.first

    @property
    def done(self):
        """How many deeds stand."""
        return len(self.state[0])

    @property
    def log(self):
        """The rounds seen since the beginning, each unlike the one ahead."""
        return (self.begun, *[told for _, _, seen in self.state[0] for told in seen])

    def _do(self, line, goal):
        """Go straight to a place, by a deed with this line; the rounds that come to the log by this.

        It is refused at marks, and over marks.
        """
        seen = () if goal == self.point else seen_on(self.chart, self.point, goal)[1:]
        self.state = (self.state[0] + ((line, goal, seen),), ())
        return seen

    def go(self, point):
        """Go straight to another place, and tell the rounds that come to the log by this."""
        if not isinstance(point, Point) or point == self.point:
            raise BadPoint(point)
        return self._do(f"go {point.text}", point)

    def step(self, line):
        """Do a step of a script, and tell the rounds that come to the log by this."""
        step = read_step(line)
        if step is None:
            raise BadLine(line)
        check_marks(self.chart, [step])
        word, goal = step_end(self.chart, step, self.point)
        if word != "done":
            raise Lost(word)
        return self._do(line, goal)

    def undo(self):
        """Take the last deed back that stands."""
        deeds, undone = self.state
        if not deeds:
            raise NothingToUndo(None)
        self.state = (deeds[:-1], undone + deeds[-1:])

    def redo(self):
        """Do the deed again that was taken back last."""
        deeds, undone = self.state
        if not undone:
            raise NothingToRedo(None)
        self.state = (deeds + undone[-1:], undone[:-1])

    def trial(self):
        """A block, to be entered by with, of which nothing is left unless it is kept."""
        return Trial(self)

    def keep(self):
        """Let what is done in the innermost block stand."""
        if self.innermost is None:
            raise NoTrial(None)
        self.innermost.kept = True

    def tried(self, look, *, keep=False):
        """What look tells of the walker within a trial, which is kept if keep is True."""
        with self.trial() as held:
            told = look(held)
            if keep is True:
                self.keep()
        return told

    def copy(self):
        """An independent walker, alike in all things, outside of all trials."""
        other = Walker(self.chart, self.first)
        other.state = self.state
        return other

    def __len__(self):
        return len(self.log)

    def __contains__(self, value):
        return value in self.log

    def __eq__(self, other):
        return (isinstance(other, Walker) and self.chart == other.chart
                and lines_of(self) == lines_of(other))
