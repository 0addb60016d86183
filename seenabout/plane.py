"""Lines in whole numbers, and the pieces into which they part the plane.

A line is (a, b, c): its height at x, y is a x + b y + c. A spot is (x, y, w)
with w above 0: the point x / w, y / w. A piece is (above, below), two integers
whose bits number the lines above and below which it lies; it lies on the
others. A piece is one point, or an open part of a line or of the plane.
"""

from math import gcd

from seenabout.points import Point
from seenabout.ratios import Ratio


def line_through(x, y, to_x, to_y):
    """The line from x, y to another place of integers."""
    a, b = y - to_y, to_x - x
    return a, b, -(a * x + b * y)


def spot_of(point):
    """The spot of a Point."""
    x, y = point.x, point.y
    return x.number * y.under, y.number * x.under, x.under * y.under


def point_of(spot):
    """The Point of a spot."""
    x, y, w = spot
    return Point(Ratio(x, w), Ratio(y, w))


def height_at(line, spot):
    """The height above a line, times the w of the spot."""
    return line[0] * spot[0] + line[1] * spot[1] + line[2] * spot[2]


def heights_at(lines, spot):
    """The heights above the lines, times the w of the spot."""
    x, y, w = spot
    return [a * x + b * y + c * w for a, b, c in lines]


def opposite(line):
    """The line above which all heights have the other sign."""
    return tuple([-number for number in line])


def minus(one, other):
    """The line above which all heights are those above one less those above other."""
    return tuple([a - b for a, b in zip(one, other)])


def sides_at(lines, spot):
    """For each line 1 if the spot lies above it, -1 if below, 0 if on it."""
    return tuple([(high > 0) - (high < 0) for high in heights_at(lines, spot)])


def piece_at(lines, spot):
    """The piece in which a spot lies."""
    above = below = 0
    for number, high in enumerate(heights_at(lines, spot)):
        if high > 0:
            above = above | (1 << number)
        elif high < 0:
            below = below | (1 << number)
    return above, below


def sides_of(piece, many):
    """The sides of a piece for the first so many lines."""
    above, below = piece
    return tuple([((above >> number) & 1) - ((below >> number) & 1) for number in range(many)])


def crossing(one, other):
    """The only spot on both lines, in least terms, or None."""
    a, b, c = one
    d, e, f = other
    w = a * e - b * d
    if w == 0:
        return None
    x, y = b * f - c * e, c * d - a * f
    common = gcd(x, y, w) if w > 0 else -gcd(x, y, w)
    return x // common, y // common, w // common


def added(spots):
    """A spot between all of these; directions (x, y, 0) among them lead on."""
    return tuple([sum([spot[k] for spot in spots]) for k in range(3)])


def _course(lines, number):
    """What changes along a line: its direction, and lines by their bits.

    Those that rise and that fall in this direction, and those side by side
    with it (the line itself among them) that have the same and the other one.
    """
    a, b, _ = lines[number]
    rising = falling = same = contrary = 0
    for at, (d, e, _) in enumerate(lines):
        slope, alike = d * b - e * a, d * a + e * b
        if slope > 0:
            rising = rising | (1 << at)
        elif slope < 0:
            falling = falling | (1 << at)
        elif alike > 0:
            same = same | (1 << at)
        else:
            contrary = contrary | (1 << at)
    return (b, -a), rising, falling, same, contrary


def _points(lines, barred):
    """The crossings of the lines that lie below no barred one: the spot of each piece."""
    spots = {}
    for at, one in enumerate(lines):
        for other in lines[:at]:
            spots[crossing(one, other)] = True
    points = {}
    for spot in spots:
        if spot is not None:
            piece = piece_at(lines, spot)
            if piece[1] & barred == 0:
                points[piece] = spot
    return points


def _edges_at(point, courses):
    """The edges that begin at a point: (edge, direction away, number of its line)."""
    above, below = point
    on = ((1 << len(courses)) - 1) ^ (above | below)
    edges = []
    for number, ((x, y), rising, falling, same, contrary) in enumerate(courses):
        # Of lines that are one and the same, the first one tells the edge for all.
        twins = on & (same | contrary)
        if (twins & -twins) == (1 << number):
            edges.append(((above | (on & rising), below | (on & falling)), (x, y, 0), number))
            edges.append(((above | (on & falling), below | (on & rising)), (-x, -y, 0), number))
    return edges


def _flanks(edge, course):
    """The faces to both sides of an edge that goes along this course."""
    above, below = edge
    _, rising, falling, same, contrary = course
    on = (rising | falling | same | contrary) ^ (above | below)
    same, contrary = on & same, on & contrary
    return [(above | same, below | contrary), (above | contrary, below | same)]


class Parts:
    """All pieces that lie below no barred line, each with a spot of it.

    ends and flanks tell of each edge the points at its ends, and the faces
    beside it.
    """

    def __init__(self, lines, barred):
        courses = [_course(lines, number) for number in range(len(lines))]
        points = _points(lines, barred)
        ends = {}
        away = {}
        flanks = {}
        for point in points:
            for edge, ray, number in _edges_at(point, courses):
                if edge[1] & barred == 0:
                    ends[edge] = ends.get(edge, []) + [point]
                    away[edge] = ray
                    flanks[edge] = [face for face in _flanks(edge, courses[number]) if face[1] & barred == 0]
        edges = {}
        around = {}
        for edge in ends:
            spots = [points[point] for point in ends[edge]]
            # An edge with one end goes on for ever.
            edges[edge] = added(spots if len(spots) == 2 else spots + [away[edge]])
            for face in flanks[edge]:
                around[face] = around.get(face, []) + [edges[edge]]
        faces = {face: added(around[face]) for face in around}
        self.spots = {**points, **edges, **faces}
        self.ends = ends
        self.flanks = flanks


def _touching(parts):
    """For each piece those of which it is part of the border, or that are part of its own."""
    near = dict([(piece, []) for piece in parts.spots])
    for edge in parts.ends:
        for one in parts.ends[edge] + parts.flanks[edge]:
            near[edge] = near[edge] + [one]
            near[one] = near[one] + [edge]
        for point in parts.ends[edge]:
            for face in parts.flanks[edge]:
                near[point] = near[point] + [face]
                near[face] = near[face] + [point]
    return near


class Plane:
    """The cells into which lines part the plane, marks being left out.

    cells: their sides, ascending; by the number of each cell there: spots,
    and near, the ascending numbers of the cells that touch it. numbers and
    pieces tell a cell's number by its sides, and by its piece.
    """

    def __init__(self, lines, marks):
        parts = Parts(lines, 0)
        spots, near = parts.spots, _touching(parts)
        found = {sides_of(piece, len(lines)): piece for piece in spots if spots[piece] not in marks}
        # As texts, too, -1 stands ahead of 0, and 0 ahead of 1.
        cells = sorted(list(found), key=str)
        pieces = {found[cell]: number for number, cell in enumerate(cells)}
        self.lines = lines
        self.cells = tuple(cells)
        self.numbers = {cell: number for number, cell in enumerate(cells)}
        self.pieces = pieces
        self.spots = [spots[found[cell]] for cell in cells]
        self.near = [_ascending([pieces[one] for one in near[found[cell]] if one in pieces]) for cell in cells]

    def spots_within(self, borders):
        """For each cell with a point below none of these lines: its number, and a spot there."""
        if not borders:
            return {number: spot for number, spot in enumerate(self.spots)}
        many = len(self.lines)
        every = (1 << many) - 1
        inside = {}
        parts = Parts(self.lines + borders, ((1 << len(borders)) - 1) << many)
        for (above, below), spot in parts.spots.items():
            number = self.pieces.get((above & every, below & every))
            if number is not None:
                inside[number] = spot
        return inside


def _ascending(numbers):
    """These integers, ascending, none twice."""
    return sorted(list({number: True for number in numbers}), key=int)
