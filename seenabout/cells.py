"""Cells: which sides there are at places, and by what it is shown that there are others at none."""

from math import gcd

from seenabout.errors import BadCells, BadSides, NoCell
from seenabout.plane import point_of, sides_at, spot_of
from seenabout.points import Point
from seenabout.ratios import is_integer
from seenabout.sights import mark_at

# A bar is (line, side, strict): a point keeps to it if it lies to this side of
# the line, or on the line with side 0; with side 1 also on it, unless strict.


def shows_no_point(weighted):
    """Whether bars, each with its weight, show that no point keeps to them all."""
    for (_, side, _), weight in weighted:
        if weight * side < 0:
            return False
    across, up, high = [sum([line[k] * weight for (line, _, _), weight in weighted]) for k in range(3)]
    if across != 0 or up != 0 or high > 0:
        return False
    return high < 0 or any([strict for (_, _, strict), _ in weighted])


def _cross(one, other):
    return one[0] * other[1] - one[1] * other[0]


def _reduced(bars, numbers, weights):
    """The weights without a common divisor, and without 0, by their bars' numbers, if they show it; or None."""
    bent = [weight * bars[number][1] for number, weight in zip(numbers, weights)]
    common = gcd(weights[0], weights[1], weights[2])
    if common == 0 or (any([one > 0 for one in bent]) and any([one < 0 for one in bent])):
        return None
    for turn in (common, -common):
        found = {number: weight // turn for number, weight in zip(numbers, weights) if weight != 0}
        if shows_no_point([(bars[number], weight) for number, weight in found.items()]):
            return found
    return None


def weights_with(bars, newest, others):
    """Weights by the bars' numbers that show that no point keeps to the newest one and others, or None.

    If some points keep to all others, but none of them to the newest one, too,
    there are such weights, for one or two of the others: bars are convex.
    """
    last = bars[newest][0]
    for at, number in enumerate(others):
        line = bars[number][0]
        turned = _cross(line, last)
        if turned == 0:
            weights = (line[0] * last[0] + line[1] * last[1], -last[0] * last[0] - last[1] * last[1], 0)
            found = _reduced(bars, (newest, number, number), weights)
            if found is not None:
                return found
        for third in others[:at]:
            other = bars[third][0]
            weights = (_cross(other, line), _cross(last, other), turned)
            found = _reduced(bars, (newest, number, third), weights)
            if found is not None:
                return found
    return None


def _is_sides(chart, value):
    """Whether any value is a tuple of 1, 0 and -1, one for each pair."""
    return (isinstance(value, tuple) and len(value) == len(chart.pairs)
            and all([is_integer(side) and -1 <= side <= 1 for side in value]))


def _check_sides(chart, value):
    """Refuse any value that is no sides asked."""
    if not _is_sides(chart, value):
        raise BadSides(value)


def _number_of(chart, value):
    """The number of any value among the cells, or None if it is no cell."""
    return chart.plane.numbers.get(value) if _is_sides(chart, value) else None


def _bars(chart, asked):
    """The bars that sides asked set up."""
    return [(line, side, side != 0) for line, side in zip(chart.plane.lines, asked)]


def _paper(chart, asked):
    """A paper for sides asked that no point has."""
    bars = _bars(chart, asked)
    for newest in range(len(bars)):
        weights = weights_with(bars, newest, list(range(newest)))
        if weights is not None:
            return tuple([(number, weights[number]) for number in sorted(list(weights), key=int)])
    return None


def _mark_with(chart, asked):
    """The name of the mark whose point has these sides, or None."""
    for spot, name in chart.spots.items():
        if sides_at(chart.plane.lines, spot) == asked:
            return name
    return None


def _is_entry(chart, value):
    """Whether any value is a number of a pair with a weight."""
    return (isinstance(value, tuple) and len(value) == 2 and is_integer(value[0]) and is_integer(value[1])
            and 0 <= value[0] < len(chart.pairs) and value[1] != 0)


def _is_paper(chart, asked, value):
    """Whether any value is a paper for sides asked."""
    if not isinstance(value, tuple) or not all([_is_entry(chart, entry) for entry in value]):
        return False
    if not all([one[0] < other[0] for one, other in zip(value, value[1:])]):
        return False
    bars = _bars(chart, asked)
    return shows_no_point([(bars[number], weight) for number, weight in value])


def _is_place_with(chart, asked, value):
    """Whether any value is a Point with sides asked at which no mark stands."""
    return (isinstance(value, Point) and mark_at(chart, value) is None
            and sides_at(chart.plane.lines, spot_of(value)) == asked)


def cells(chart):
    """The ascending tuple of all cells."""
    return chart.plane.cells


def place_of(chart, sides):
    """A place with these sides, the mark that has them, or a paper that shows that no point has them."""
    _check_sides(chart, sides)
    number = _number_of(chart, sides)
    if number is not None:
        return "place", point_of(chart.plane.spots[number])
    name = _mark_with(chart, sides)
    if name is not None:
        return "mark", name
    return "never", _paper(chart, sides)


def shows_place_of(chart, sides, value):
    """Whether any value is such a result of place_of."""
    _check_sides(chart, sides)
    if not isinstance(value, tuple) or len(value) != 2:
        return False
    word, told = value
    if word == "place":
        return _is_place_with(chart, sides, told)
    if word == "mark":
        return isinstance(told, str) and told == _mark_with(chart, sides)
    return word == "never" and _is_paper(chart, sides, told)


def next_to(chart, cell):
    """The ascending tuple of the cells that touch this one."""
    number = _number_of(chart, cell)
    if number is None:
        raise NoCell(cell)
    return tuple([chart.plane.cells[other] for other in chart.plane.near[number]])


def spread(chart, begin, allowed):
    """The ascending numbers of the cells to which one comes over allowed ones from those in begin."""
    reached = {number: True for number in begin}
    waiting = list(begin)
    while waiting:
        number = waiting.pop()
        for other in chart.plane.near[number]:
            if other in allowed and other not in reached:
                reached[other] = True
                waiting.append(other)
    return sorted(list(reached), key=int)


def _numbers_of(chart, value):
    """The numbers of an ascending tuple of cells, or None if any value is none."""
    if not isinstance(value, tuple):
        return None
    numbers = [_number_of(chart, cell) for cell in value]
    if None in numbers or not all([one < other for one, other in zip(numbers, numbers[1:])]):
        return None
    return numbers


def pieces(chart, some):
    """The parts of some cells that hang together."""
    numbers = _numbers_of(chart, some)
    if numbers is None:
        raise BadCells(some)
    allowed = {number: True for number in numbers}
    parts, done = [], {}
    for number in numbers:
        if number not in done:
            part = spread(chart, [number], allowed)
            parts.append(tuple([chart.plane.cells[one] for one in part]))
            done.update({one: True for one in part})
    return tuple(parts)
