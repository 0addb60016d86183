"""Journals: what a walker did, in lines, there and back."""

from seenabout.charts import Chart
from seenabout.errors import AboutError, BadChart, BadJournal
from seenabout.points import read_point
from seenabout.walkers import Walker, lines_of


def journal(walker):
    """The lines of the chart, of the first place, and of all deeds that stand."""
    return "\n".join([walker.chart.text] + lines_of(walker))


def _point_behind(word, line):
    """The Point of a line that has just this word, and then the text of a Point; otherwise None."""
    start = f"{word} "
    return read_point(line.removeprefix(start)) if line.startswith(start) else None


def read_go(line):
    """The Point of any value that is a line go X Y, otherwise None."""
    return _point_behind("go", line) if isinstance(line, str) else None


def do_line(walker, line):
    """Let a walker do what a line, go X Y or one of a step, tells."""
    point = read_go(line)
    if point is None:
        walker.step(line)
    else:
        walker.go(point)


def _read_chart(lines):
    """The chart that the first lines of a journal tell."""
    try:
        return Chart("\n".join(lines))
    except BadChart as error:
        raise BadJournal(error.value) from None


def read_journal(text):
    """The walker by whom this was done."""
    if not isinstance(text, str):
        raise BadJournal(0)
    lines = text.split("\n")
    begins = [number for number, line in enumerate(lines) if line.split(" ")[0] == "at"]
    if not begins:
        raise BadJournal(len(lines) + 1)
    number = begins[0]
    chart = _read_chart(lines[:number])
    try:
        walker = Walker(chart, _point_behind("at", lines[number]))
        for line in lines[number + 1:]:
            number += 1
            do_line(walker, line)
    except AboutError:
        raise BadJournal(number + 1) from None
    return walker
