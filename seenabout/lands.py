"""Lands: convex parts of the plane, told by a few corners; and how these, and parts of lines, are cut.

A part is a Region, which is cut by lines, or a Stretch of the shares of a line,
which is cut by forms: (rise, at) is as high as rise u + at at share u. A table
(p, q, r, s) leads share u to (p u + q) / (r u + s).
"""

from math import gcd

from seenabout.errors import BadLand
from seenabout.plane import added, height_at, heights_at, line_through, opposite, spot_of
from seenabout.points import Line, Point
from seenabout.ratios import Ratio, difference, is_integer

_FAR = 999


def check_land(land):
    """Refuse any value that is neither None nor a Land."""
    if land is not None and not isinstance(land, Land):
        raise BadLand(land)


def check_no_plane(land):
    """Refuse any value that is no Land, the whole plane, too."""
    if not isinstance(land, Land):
        raise BadLand(land)


def borders_of(land):
    """The lines of the edges of a land, in whole numbers; the whole plane has none."""
    return [] if land is None else land.borders


def _is_corner(value):
    """Whether any value is a tuple of two integers that are not too far."""
    return (isinstance(value, tuple) and len(value) == 2
            and all([is_integer(number) and abs(number) <= _FAR for number in value]))


def _with_next(corners):
    """Each corner with the next one, the last one with the first one."""
    return [(corner, corners[(at + 1) - len(corners)]) for at, corner in enumerate(corners)]


def _borders(corners):
    """The line of each edge, in whole numbers."""
    return [line_through(x, y, to_x, to_y) for (x, y), (to_x, to_y) in _with_next(corners)]


def _goes_round_once(corners, borders):
    """Whether one turns to the left at each corner, and goes round once.

    It is so if all corners but its own two lie to the left of each edge.
    """
    for border in borders:
        to_the_left = [x for x, y in corners if heights_at([border], (x, y, 1))[0] > 0]
        if len(to_the_left) != len(corners) - 2:
            return False
    return True


class Land:
    """All points within these corners, and on the border.

    borders are the lines of its edges in whole numbers.
    """

    def __init__(self, corners):
        if not isinstance(corners, tuple) or not 3 <= len(corners) <= 8:
            raise BadLand(corners)
        if not all([_is_corner(corner) for corner in corners]):
            raise BadLand(corners)
        borders = _borders(corners)
        if not _goes_round_once(corners, borders):
            raise BadLand(corners)
        self.corners = corners
        self.edges = tuple([Line(Point(x, y), Point(to_x, to_y)) for (x, y), (to_x, to_y) in _with_next(corners)])
        self.borders = borders

    def __contains__(self, value):
        if not isinstance(value, Point):
            return False
        return all([high >= 0 for high in heights_at(self.borders, spot_of(value))])

    def __eq__(self, other):
        return isinstance(other, Land) and self.corners == other.corners


def _clipped(corners, line):
    """The corners of what does not lie below a line, of the convex part of the plane with these corners."""
    kept = {}
    for at, corner in enumerate(corners):
        back = corners[at - 1]
        high, low = height_at(line, corner), height_at(line, back)
        if high * low < 0:
            x, y, w = [abs(low) * to + abs(high) * begin for to, begin in zip(corner, back)]
            common = gcd(x, y, w)
            kept[x // common, y // common, w // common] = True
        if high >= 0:
            kept[corner] = True
    return list(kept)


class Region:
    """All points between the corners, which are spots, that lie above each of the lines."""

    def __init__(self, corners, lines):
        self.corners = corners
        self.lines = lines

    def some_spot(self):
        """A spot of it: wherever any point lies above a line, the middle of all corners does, too."""
        return added(self.corners)

    def cut(self, line, strict):
        """The part that lies above this line, or on it unless strict; None if there is no point."""
        found = Region(_clipped(self.corners, line), self.lines + [line] if strict else self.lines)
        if not found.corners:
            return None
        return found if all([high > 0 for high in heights_at(found.lines, found.some_spot())]) else None


def _inner(one, other, sign):
    """The end of what two stretches have in common, of both their low ends (sign 1) or high ends (-1)."""
    if one is None or other is None:
        return other if one is None else one
    gap = difference(one[0], other[0]) * sign
    if gap == 0:
        return one[0], one[1] and other[1]
    return one if gap > 0 else other


def _has_points(low, high):
    """Whether there is a share from this low end to this high one."""
    if low is None or high is None:
        return True
    gap = difference(high[0], low[0])
    return gap > 0 or (gap == 0 and low[1] and high[1])


def reduced(table):
    """The table without a common divisor, with the same signs."""
    p, q, r, s = table
    common = gcd(p, q, r, s)
    return p // common, q // common, r // common, s // common


def behind(table, then):
    """The table that leads as a table does, and then as another one."""
    a, b, c, d = table
    p, q, r, s = then
    return reduced((p * a + q * c, p * b + q * d, r * a + s * c, r * b + s * d))


def share_of(table, share):
    """The share to which a table leads this one."""
    p, q, r, s = table
    return Ratio(p * share.number + q * share.under, r * share.number + s * share.under)


class Stretch:
    """All shares from low to high, each (share, whether it belongs to it), or None if it is endless."""

    def __init__(self, low, high):
        self.low = low
        self.high = high

    def meet(self, other):
        """What it has in common with another one, None if that is nothing."""
        low, high = _inner(self.low, other.low, 1), _inner(self.high, other.high, -1)
        return Stretch(low, high) if _has_points(low, high) else None

    def cut(self, form, strict):
        """The part at which a form is above 0, or also 0 unless strict; None if there is no share."""
        rise, at = form
        if rise == 0:
            return self if at > 0 or (at == 0 and not strict) else None
        end = (Ratio(-at, rise), not strict)
        return self.meet(Stretch(end, None) if rise > 0 else Stretch(None, end))

    def through(self, table):
        """The stretch of the shares to which a table (p, q, r, s) leads: (p u + q) / (r u + s) for each share u."""
        p, q, r, s = table
        turn = p * s - q * r
        if turn == 0:
            end = (share_of(table, self.some_share()), True)
            return Stretch(end, end)
        ends = []
        for end in (self.low, self.high):
            number, under = (1, 0) if end is None else (end[0].number, end[0].under)
            over, by = p * number + q * under, r * number + s * under
            ends.append(None if by == 0 else (Ratio(over, by), end is not None and end[1]))
        return Stretch(ends[0], ends[1]) if turn > 0 else Stretch(ends[1], ends[0])

    def some_share(self):
        """A share that belongs to it."""
        if self.low is None:
            return Ratio(0) if self.high is None else self.high[0] - 1
        if self.high is None:
            return self.low[0] + 1
        return (self.low[0] + self.high[0]) * Ratio(1, 2)


def _stands_ahead(one, other):
    """Whether a stretch begins ahead of another one."""
    if one.low is None or other.low is None:
        return one.low is None and other.low is not None
    gap = difference(other.low[0], one.low[0])
    return gap > 0 or (gap == 0 and one.low[1] and not other.low[1])


def _hang_together(one, other):
    """Whether there is nothing between two stretches, the first of which begins first."""
    if one.high is None or other.low is None:
        return True
    gap = difference(one.high[0], other.low[0])
    return gap > 0 or (gap == 0 and (one.high[1] or other.low[1]))


def _outer(one, other):
    """The greater one of two high ends."""
    if one is None or other is None:
        return None
    gap = difference(one[0], other[0])
    if gap == 0:
        return one[0], one[1] or other[1]
    return one if gap > 0 else other


def united(parts):
    """As few stretches as can be with the same shares as these, from low shares to high ones."""
    waiting = []
    for part in parts:
        at = len(waiting)
        while at > 0 and _stands_ahead(part, waiting[at - 1]):
            at -= 1
        waiting.insert(at, part)
    found = []
    for part in waiting:
        if found and _hang_together(found[-1], part):
            found[-1] = Stretch(found[-1].low, _outer(found[-1].high, part.high))
        else:
            found.append(part)
    return found


def split(part, conditions):
    """What of a part keeps to all (form, strict), and what each one leaves out; None for nothing."""
    left_out = []
    for form, strict in conditions:
        left_out.append(None if part is None else part.cut(opposite(form), not strict))
        part = None if part is None else part.cut(form, strict)
    return part, left_out


def on_and_off(part, forms):
    """What of a part is at 0 by all forms, None for nothing, and the rest of it, in pieces."""
    off = []
    for form in forms:
        if part is not None:
            off.extend([part.cut(form, True), part.cut(opposite(form), True)])
            part, _ = split(part, [(form, False), (opposite(form), False)])
    return part, [one for one in off if one is not None]
