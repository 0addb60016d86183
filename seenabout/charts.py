"""Charts: where the marks stand, in whole numbers."""

from seenabout.errors import BadChart, BadLine, Needed, NoMark
from seenabout.plane import Plane, heights_at, line_through
from seenabout.points import Line, Point

_LETTERS = "abcdefghijklmnopqrstuvwxyz"
_LEAST = 3
_MOST = 7


def is_name(word):
    """Whether a string has 1 to 8 letters a to z."""
    return 1 <= len(word) <= 8 and all([letter in _LETTERS for letter in word])


def small_integer(word):
    """The integer from -999 to 999 that Python writes so, or None."""
    figures = word.removeprefix("-")
    if len(figures) > 3 or not figures.isascii() or not figures.isdigit():
        return None
    number = int(word)
    return number if str(number) == word else None


def _read_mark(line):
    """The (name, x, y) of a line of a chart, or None if any value has not this form."""
    words = line.split(" ") if isinstance(line, str) else []
    if len(words) != 4 or words[0] != "mark" or not is_name(words[1]):
        return None
    x, y = small_integer(words[2]), small_integer(words[3])
    return None if x is None or y is None else (words[1], x, y)


def _pairs(many):
    """The numbers of the marks of each pair, the less one first, if there are so many marks."""
    return [(one, other) for one in range(many) for other in range(one + 1, many)]


def _pair_lines(marks):
    """The line of each pair of marks."""
    lines = []
    for one, other in _pairs(len(marks)):
        _, x, y = marks[one]
        _, to_x, to_y = marks[other]
        lines.append(line_through(x, y, to_x, to_y))
    return lines


def _fits(mark, ahead):
    """Whether a mark can stand behind those ahead of it."""
    name, x, y = mark
    if len(ahead) == _MOST or any([name == one or (x, y) == (at_x, at_y) for one, at_x, at_y in ahead]):
        return False
    return 0 not in heights_at(_pair_lines(ahead), (x, y, 1))


def _next_mark(line, ahead):
    """The mark of any value that can stand as a line behind these marks, or None."""
    mark = _read_mark(line)
    return mark if mark is not None and _fits(mark, ahead) else None


def _read_marks(text):
    """The (name, x, y) of each line of the text of a chart."""
    if not isinstance(text, str):
        raise BadChart(0)
    marks = []
    for line in text.split("\n"):
        mark = _next_mark(line, marks)
        if mark is None:
            raise BadChart(len(marks) + 1)
        marks.append(mark)
    if len(marks) < _LEAST:
        raise BadChart(len(marks) + 1)
    return marks


class Chart:
    """The marks of this text.

    Besides what callers are told: marks, the (name, x, y) of each; places, its
    Point by its name; spots, its name by its spot; pair_at, the number of the
    pair of two marks by their numbers, the less one first; plane, the cells.
    """

    def __init__(self, text):
        marks = _read_marks(text)
        some = _pairs(len(marks))
        spots = {(x, y, 1): name for name, x, y in marks}
        self._text = text
        self.names = tuple([name for name, _, _ in marks])
        self.pairs = tuple([(marks[one][0], marks[other][0]) for one, other in some])
        self.marks = marks
        self.places = {name: Point(x, y) for name, x, y in marks}
        self.pair_at = {pair: number for number, pair in enumerate(some)}
        self.spots = spots
        self.plane = Plane(_pair_lines(marks), spots)

    @property
    def text(self):
        """The text by which it was created."""
        return self._text

    def line(self, one, other):
        """The Line from the mark one to the mark other."""
        check_two(self, one, other)
        return Line(self[one], self[other])

    def without(self, name):
        """The Chart without the line of this mark."""
        if name not in self:
            raise NoMark(name)
        if len(self) == _LEAST:
            raise Needed(name)
        lines = self.text.split("\n")
        return Chart("\n".join([line for line, mark in zip(lines, self.names) if mark != name]))

    def __getitem__(self, name):
        if name not in self:
            raise NoMark(name)
        return self.places[name]

    def __iter__(self):
        raise TypeError("a chart is not gone over")

    def __len__(self):
        return len(self.names)

    def __contains__(self, value):
        return isinstance(value, str) and value in self.places

    def __add__(self, line):
        if _next_mark(line, self.marks) is None:
            raise BadLine(line)
        return Chart(f"{self.text}\n{line}")

    def __eq__(self, other):
        return isinstance(other, Chart) and self.text == other.text


def check_two(chart, one, other):
    """Refuse what are no two unlike marks."""
    if one not in chart:
        raise NoMark(one)
    if other not in chart or one == other:
        raise NoMark(other)


def pair_number(chart, one, other):
    """The number of the pair of two marks, in whichever sequence."""
    begin, end = chart.names.index(one), chart.names.index(other)
    return chart.pair_at[(begin, end) if begin < end else (end, begin)]


def spots_of_pair(chart, number):
    """The spots of both marks of a pair."""
    one, other = list(chart.pair_at)[number]
    _, x, y = chart.marks[one]
    _, to_x, to_y = chart.marks[other]
    return (x, y, 1), (to_x, to_y, 1)
