"""Lands: convex parts of the plane, told by a few corners."""

from seenabout.errors import BadLand
from seenabout.plane import heights_at, line_through, spot_of
from seenabout.points import Line, Point
from seenabout.ratios import is_integer

_FAR = 999


def check_land(land):
    """Refuse any value that is neither None nor a Land."""
    if land is not None and not isinstance(land, Land):
        raise BadLand(land)


def borders_of(land):
    """The lines of the edges of a land, in whole numbers; the whole plane has none."""
    return [] if land is None else land.borders


def _is_corner(value):
    """Whether any value is a tuple of two integers that are not too far."""
    return (isinstance(value, tuple) and len(value) == 2
            and all([is_integer(number) and abs(number) <= _FAR for number in value]))


def _with_next(corners):
    """Each corner with the next one, the last one with the first one."""
    return [(corner, corners[(at + 1) - len(corners)]) for at, corner in enumerate(corners)]


def _borders(corners):
    """The line of each edge, in whole numbers."""
    return [line_through(x, y, to_x, to_y) for (x, y), (to_x, to_y) in _with_next(corners)]


def _goes_round_once(corners, borders):
    """Whether one turns to the left at each corner, and goes round once.

    It is so if all corners but its own two lie to the left of each edge.
    """
    for border in borders:
        to_the_left = [x for x, y in corners if heights_at([border], (x, y, 1))[0] > 0]
        if len(to_the_left) != len(corners) - 2:
            return False
    return True


class Land:
    """All points within these corners, and on the border.

    borders are the lines of its edges in whole numbers.
    """

    def __init__(self, corners):
        if not isinstance(corners, tuple) or not 3 <= len(corners) <= 8:
            raise BadLand(corners)
        if not all([_is_corner(corner) for corner in corners]):
            raise BadLand(corners)
        borders = _borders(corners)
        if not _goes_round_once(corners, borders):
            raise BadLand(corners)
        self.corners = corners
        self.edges = tuple([Line(Point(x, y), Point(to_x, to_y)) for (x, y), (to_x, to_y) in _with_next(corners)])
        self.borders = borders

    def __contains__(self, value):
        if not isinstance(value, Point):
            return False
        return all([high >= 0 for high in heights_at(self.borders, spot_of(value))])

    def __eq__(self, other):
        return isinstance(other, Land) and self.corners == other.corners
