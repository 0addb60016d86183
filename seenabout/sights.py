"""What is seen from a place: on which sides of the lines one stands, and the round of the marks."""

from seenabout.errors import AtMark, BadNames
from seenabout.plane import sides_at, spot_of
from seenabout.points import check_point


def mark_at(chart, point):
    """The name of the mark that stands at a Point, or None."""
    return chart.spots.get(spot_of(point))


def check_place(chart, point):
    """Refuse any value that is not a Point, and one at which a mark stands."""
    check_point(point)
    name = mark_at(chart, point)
    if name is not None:
        raise AtMark(name)


def places_among(names, some):
    """The numbers at which some of the names stand, or None unless they are a tuple in this sequence."""
    if not isinstance(some, tuple) or not all([name in names for name in some]):
        return None
    numbers = [names.index(name) for name in some]
    rising = all([one < other for one, other in zip(numbers, numbers[1:])])
    return numbers if rising else None


def chosen_marks(chart, among):
    """The ascending numbers of the marks of among."""
    if among is None:
        return list(range(len(chart)))
    chosen = places_among(chart.names, among)
    if chosen is None or len(chosen) < 3:
        raise BadNames(among)
    return chosen


def in_one_direction(chart, cell, one, other, third):
    """Whether two marks, on whose line a cell lies, are seen in one direction.

    Marks are told by their numbers. From there the third one lies to the same
    side of both if they are in one direction, otherwise not.
    """
    return _turn(chart, cell, one, third) == _turn(chart, cell, other, third)


def _turn(chart, cell, one, other):
    """Where the mark other lies if one looks towards one: 1 to the left, -1 to the right."""
    if one < other:
        return cell[chart.pair_at[one, other]]
    return -cell[chart.pair_at[other, one]]


def _turning_left(chart, cell, marks):
    """The groups of marks within one half of the view, as they come if one turns to the left."""
    groups = []
    for mark in marks:
        at = 0
        while at < len(groups) and _turn(chart, cell, groups[at][0], mark) > 0:
            at += 1
        if at < len(groups) and _turn(chart, cell, groups[at][0], mark) == 0:
            groups[at].append(mark)
        else:
            groups.insert(at, [mark])
    return groups


def round_from(chart, cell, chosen):
    """The round of the marks with these ascending numbers, as it is seen from a cell."""
    first = chosen[0]
    ahead, behind, left, right = [first], [], [], []
    for mark in chosen[1:]:
        side = _turn(chart, cell, first, mark)
        if side > 0:
            left.append(mark)
        elif side < 0:
            right.append(mark)
        elif in_one_direction(chart, cell, first, mark, chosen[1] if mark != chosen[1] else chosen[2]):
            ahead.append(mark)
        else:
            behind.append(mark)
    groups = [ahead, *_turning_left(chart, cell, left), behind, *_turning_left(chart, cell, right)]
    return tuple([tuple([chart.names[mark] for mark in group]) for group in groups if group])


def sides(chart, point):
    """For each pair 1 if the point lies to the left of its line, -1 if to the right, 0 if on it."""
    check_place(chart, point)
    return sides_at(chart.plane.lines, spot_of(point))


def about(chart, point, *, among=None):
    """The round of the marks of among, as it is seen from a place."""
    check_place(chart, point)
    return round_from(chart, sides_at(chart.plane.lines, spot_of(point)), chosen_marks(chart, among))
