"""What the package refuses: one error for each kind of failure."""


class AboutError(ValueError):
    """The error above all others; value is what it was created with."""

    def __init__(self, value):
        self.value = value


class BadRatio(AboutError):
    """A fraction of what are no integers, or under 0; a division by 0 or by no number."""


class BadText(AboutError):
    """No text of a Ratio or of a Point."""


class BadPoint(AboutError):
    """No Point, or one that cannot stand here."""


class BadNumber(AboutError):
    """Neither an integer nor a Ratio, or one that cannot stand here."""


class Off(AboutError):
    """A point that is not on the line."""


class BadChart(AboutError):
    """The number of the first line by which a text is no chart."""


class NoMark(AboutError):
    """No name of a mark of the chart."""


class BadLine(AboutError):
    """No line that can stand here."""


class Needed(AboutError):
    """A mark that cannot be left out."""


class AtMark(AboutError):
    """The mark that stands at this place."""


class BadNames(AboutError):
    """No choice of marks of the chart."""


class BadSides(AboutError):
    """No sides for the pairs of the chart."""


class NoCell(AboutError):
    """No cell of the chart."""


class BadCells(AboutError):
    """No ascending tuple of cells of the chart."""


class BadLand(AboutError):
    """No land, or no corners of one."""


class BadRound(AboutError):
    """No round of these marks by its form."""


class OverMark(AboutError):
    """The mark that a way goes over."""


class OnLine(AboutError):
    """A point that is on the line of a pair."""


class BadLog(AboutError):
    """No log of the chart."""


class BadScript(AboutError):
    """The number of the first line by which a text is no script."""


class NoLap(AboutError):
    """The number of the first line by which a script is no lap."""


class BadAsk(AboutError):
    """No pair of marks of the chart."""


class Unlike(AboutError):
    """No chart with the same names in the same sequence."""


class BadOffers(AboutError):
    """No offers."""


class BadAsks(AboutError):
    """No asks of the chart."""


class Lost(AboutError):
    """The word for a step that does not end."""


class NothingToUndo(AboutError):
    """No deed stands."""


class NothingToRedo(AboutError):
    """No deed was taken back that could be done again."""


class NoTrial(AboutError):
    """No trial is under way."""


class BadJournal(AboutError):
    """The number of the first line by which a text is no journal."""


class BadSay(AboutError):
    """No line that a desk answers."""
