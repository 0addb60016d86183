"""Points of the plane, and lines with a direction through two of them."""

from seenabout.errors import BadNumber, BadPoint, BadText, Off
from seenabout.ratios import as_ratio, is_number, read_ratio


def check_point(value):
    """Refuse any value that is not a Point."""
    if not isinstance(value, Point):
        raise BadPoint(value)


def read_point(value):
    """The Point of which any value is the text, or None if it is of none."""
    words = value.split(" ") if isinstance(value, str) else []
    read = [read_ratio(word) for word in words]
    if len(read) != 2 or read[0] is None or read[1] is None:
        return None
    return Point(read[0], read[1])


class Point:
    """The place x, y; the coordinates are told as Ratios."""

    def __init__(self, x, y):
        if not is_number(x) or not is_number(y):
            raise BadPoint((x, y))
        self.x = as_ratio(x)
        self.y = as_ratio(y)

    @property
    def text(self):
        """The texts of both coordinates with a blank between them."""
        return f"{self.x.text} {self.y.text}"

    @staticmethod
    def of(text):
        """The Point of which this is the text."""
        point = read_point(text)
        if point is None:
            raise BadText(text)
        return point

    def towards(self, other, share):
        """The Point that lies this share of the way from here to other."""
        check_point(other)
        if not is_number(share):
            raise BadNumber(share)
        return Point(self.x + (other.x - self.x) * share, self.y + (other.y - self.y) * share)

    def __add__(self, other):
        if not isinstance(other, Point):
            return NotImplemented
        return Point(self.x + other.x, self.y + other.y)

    def __sub__(self, other):
        if not isinstance(other, Point):
            return NotImplemented
        return Point(self.x - other.x, self.y - other.y)

    def __eq__(self, other):
        return isinstance(other, Point) and self.x == other.x and self.y == other.y


class Line:
    """The line through two unlike Points, in the direction from one to other."""

    def __init__(self, one, other):
        check_point(one)
        check_point(other)
        if one == other:
            raise BadPoint(other)
        self.one = one
        self.other = other

    def height(self, point):
        """Above 0 for a point to the left of the line, below 0 to the right, 0 on it."""
        check_point(point)
        way = self.other - self.one
        gone = point - self.one
        return way.x * gone.y - way.y * gone.x

    def share(self, point):
        """The share by which towards leads from one to this point of the line."""
        if self.height(point).number != 0:
            raise Off(point)
        way = self.other - self.one
        gone = point - self.one
        # A line straight up has no way in x to measure by.
        return gone.y.divided(way.y) if way.x.number == 0 else gone.x.divided(way.x)

    def __and__(self, other):
        if not isinstance(other, Line):
            return NotImplemented
        begin = self.height(other.one)
        fall = begin - self.height(other.other)
        # Side by side, or the same line: the height does not change along other.
        if fall.number == 0:
            return None
        return other.one.towards(other.other, begin.divided(fall))

    def __eq__(self, other):
        return isinstance(other, Line) and self.one == other.one and self.other == other.other
