"""Straight ways: what is crossed and seen on them, and how few exchanges lead from place to place."""

from math import lcm

from seenabout.errors import BadPoint, OnLine, OverMark
from seenabout.plane import heights_at, point_of, spot_of
from seenabout.points import Line, Point, check_point
from seenabout.ratios import Ratio, is_integer
from seenabout.sights import about, check_place, in_one_direction, mark_at, sides


def mark_over(chart, start, goal):
    """The name of the first mark between two unlike Points, on the straight way, or None."""
    way = Line(start, goal)
    first, least = None, Ratio(1)
    for name in chart.names:
        point = chart[name]
        if way.height(point).number == 0 and 0 < way.share(point) < least:
            first, least = name, way.share(point)
    return first


def check_way(chart, start, goal):
    """Refuse what is no way from start to goal over no mark."""
    check_point(start)
    if not isinstance(goal, Point) or goal == start:
        raise BadPoint(goal)
    check_place(chart, start)
    check_place(chart, goal)
    name = mark_over(chart, start, goal)
    if name is not None:
        raise OverMark(name)


def _moments(chart, start, goal):
    """The (number, moment) of all pairs but those that have the whole way on, or beside, their line."""
    begin, end = spot_of(start), spot_of(goal)
    lines = chart.plane.lines
    # A spot's heights are told times its w: only times both they can be compared.
    first = [high * end[2] for high in heights_at(lines, begin)]
    last = [high * begin[2] for high in heights_at(lines, end)]
    return [(number, Ratio(one, one - other)) for number, (one, other) in enumerate(zip(first, last)) if one != other]


def crossed(chart, start, goal):
    """All moments at which one is on lines that do not have the whole way on them, with their pairs."""
    check_way(chart, start, goal)
    moments = [(number, moment) for number, moment in _moments(chart, start, goal) if 0 <= moment <= 1]
    whole = 1
    for _, moment in moments:
        whole = lcm(whole, moment.under)
    numbers = {}
    for number, moment in moments:
        at = moment.number * (whole // moment.under)
        numbers[at] = numbers.get(at, []) + [number]
    return tuple([(Ratio(at, whole), tuple(numbers[at])) for at in sorted(list(numbers), key=int)])


def seen_on(chart, start, goal):
    """The rounds that are seen one behind another from start to goal."""
    stops = [Ratio(0)]
    for moment in [at for at, _ in crossed(chart, start, goal)] + [Ratio(1)]:
        # Between two lines the round is the same all the way: half of it is enough.
        stops.append((stops[-1] + moment) * Ratio(1, 2))
        stops.append(moment)
    seen = []
    for share in stops:
        told = about(chart, start.towards(goal, share))
        if not seen or seen[-1] != told:
            seen.append(told)
    return tuple(seen)


def _check_ends(chart, start, goal):
    """Refuse what is no place to begin and to end with a way of few exchanges."""
    check_point(start)
    check_point(goal)
    check_place(chart, start)
    check_place(chart, goal)
    for point in (start, goal):
        if 0 in sides(chart, point):
            raise OnLine(point)


def _exchanges_through(chart, cell):
    """The exchanges, 1 or 0, if one goes through a cell with just one side 0."""
    one, other = list(chart.pair_at)[cell.index(0)]
    third = [mark for mark in range(3) if mark not in (one, other)][0]
    return 1 if in_one_direction(chart, cell, one, other, third) else 0


def _gates(chart):
    """For each cell with just one side 0: the numbers of both cells beside it, and the exchanges between these."""
    found = []
    for number, cell in enumerate(chart.plane.cells):
        if cell.count(0) == 1:
            one, other = [face for face in chart.plane.near[number] if 0 not in chart.plane.cells[face]]
            found.append((one, other, _exchanges_through(chart, cell)))
    return found


def _steps(gates):
    """For each cell without side 0 the (cell, exchanges) beyond its gates."""
    steps = {}
    for one, other, many in gates:
        steps[one] = steps.get(one, []) + [(other, many)]
        steps[other] = steps.get(other, []) + [(one, many)]
    return steps


def _reached(steps, begin):
    """For each cell the fewest exchanges by which one comes to it from begin, and the cell from which one comes."""
    found = {begin: (0, None)}
    waiting, beyond = [begin], []
    while waiting:
        here = waiting.pop()
        for other, many in steps[here]:
            if many == 0 and other not in found:
                found[other] = (found[here][0], here)
                waiting.append(other)
        beyond.append(here)
        if not waiting:
            # All that cost no more are found: now those that cost one exchange more.
            for there in beyond:
                for other, _ in steps[there]:
                    if other not in found:
                        found[other] = (found[there][0] + 1, there)
                        waiting.append(other)
            beyond = []
    return found


def _faces(chart):
    """The numbers of the cells without side 0, ascending."""
    return [number for number, cell in enumerate(chart.plane.cells) if 0 not in cell]


def _between(found, end):
    """The cells through which one comes to end, in sequence, without the first and the last one."""
    back = [end]
    while found[back[-1]][1] is not None:
        back.append(found[back[-1]][1])
    return back[1:-1][::-1]


def fewest(chart, start, goal):
    """The fewest exchanges from start to goal, a way with just so many, and levels that show that there are no less."""
    _check_ends(chart, start, goal)
    plane = chart.plane
    begin, end = plane.numbers[sides(chart, start)], plane.numbers[sides(chart, goal)]
    found = _reached(_steps(_gates(chart)), begin)
    inner = [point_of(plane.spots[number]) for number in _between(found, end)]
    way = (start,) if start == goal else (start, *inner, goal)
    return found[end][0], way, tuple([found[number][0] for number in _faces(chart)])


def _exchanges_on(chart, start, goal):
    """The exchanges on a straight part of a way whose ends are on no line, or None if it goes over a mark."""
    if mark_over(chart, start, goal) is not None:
        return None
    way = Line(start, goal)
    to_the_left = [way.height(chart[name]) > 0 for name in chart.names]
    begin, end = sides(chart, start), sides(chart, goal)
    beyond = [number for (one, other), number in chart.pair_at.items()
              if begin[number] != end[number] and to_the_left[one] == to_the_left[other]]
    return len(beyond)


def _is_way(chart, start, goal, value):
    """Whether any value is a way from start to goal, as fewest tells them, perhaps over marks."""
    if not isinstance(value, tuple) or not value or not all([isinstance(point, Point) for point in value]):
        return False
    if value[0] != start or value[-1] != goal or (start == goal and len(value) > 1):
        return False
    if any([one == other for one, other in zip(value, value[1:])]):
        return False
    return all([mark_at(chart, point) is None and 0 not in sides(chart, point) for point in value[1:-1]])


def _are_levels(chart, start, goal, number, value):
    """Whether any value is levels that show that there are no less exchanges than this number."""
    faces = _faces(chart)
    if not isinstance(value, tuple) or len(value) != len(faces) or not all([is_integer(level) for level in value]):
        return False
    levels = dict(zip(faces, value))
    begin, end = [chart.plane.numbers[sides(chart, point)] for point in (start, goal)]
    if levels[begin] != 0 or levels[end] != number:
        return False
    return all([abs(levels[one] - levels[other]) <= many for one, other, many in _gates(chart)])


def shows_fewest(chart, start, goal, value):
    """Whether any value is such a result of fewest."""
    _check_ends(chart, start, goal)
    if not isinstance(value, tuple) or len(value) != 3 or not is_integer(value[0]):
        return False
    number, way, levels = value
    if not _is_way(chart, start, goal, way) or not _are_levels(chart, start, goal, number, levels):
        return False
    parts = [_exchanges_on(chart, one, other) for one, other in zip(way, way[1:])]
    return None not in parts and sum(parts) == number
