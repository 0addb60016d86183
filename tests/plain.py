"""All over again, by hand: what the document tells, reckoned with Python's own fractions, place by place.

Here a place is (x, y) of Fractions, and marks are a dict of places by name.
Nothing here uses what the package reckons, but for creating its objects.
"""

import itertools
from fractions import Fraction
from functools import cmp_to_key

from seenabout.charts import Chart
from seenabout.lands import Land
from seenabout.points import Point
from seenabout.ratios import Ratio

# Charts of all kinds, by their marks: with crossings of three lines in one
# point, with lines side by side, straight up and across, wide and narrow.
TRIANGLE = {"a": (0, 0), "b": (4, 0), "c": (0, 4)}
TURNED = {"a": (0, 0), "b": (0, 4), "c": (4, 0)}
SLANT = {"mill": (-7, 3), "oak": (5, -2), "z": (9, 8)}
SQUARE = {"a": (0, 0), "b": (4, 0), "c": (4, 4), "d": (0, 4)}
INNER = {"a": (0, 0), "b": (9, 1), "c": (2, 8), "d": (3, 3)}
LONG = {"west": (-999, -1), "east": (999, 2), "n": (0, 999), "s": (1, -998)}
FIVE = {"a": (0, 0), "b": (4, 0), "c": (0, 4), "d": (6, 6), "e": (1, -3)}
HOUSE = {"a": (0, 0), "b": (4, 0), "c": (4, 4), "d": (0, 4), "top": (2, 6)}
HEXAGON = {"a": (2, 0), "b": (1, 2), "c": (-1, 2), "d": (-2, 0), "e": (-1, -2), "f": (1, -2)}
SEVEN = {"a": (-40, 3), "b": (17, -30), "c": (25, 44), "d": (-9, -8), "e": (60, 5), "f": (-30, 51), "g": (3, 11)}
SEVEN_FLAT = {"a": (0, 0), "b": (6, 0), "c": (1, 1), "d": (5, 1), "e": (0, 3), "f": (6, 3), "g": (3, 7)}
SMALL = [TRIANGLE, TURNED, SLANT, SQUARE, INNER, LONG]
MIDDLE = [FIVE, HOUSE]
LARGE = [HEXAGON, SEVEN, SEVEN_FLAT]


def text_of(marks):
    return "\n".join(f"mark {name} {x} {y}" for name, (x, y) in marks.items())


def chart_of(marks):
    return Chart(text_of(marks))


def ratio(number):
    return Ratio(number.numerator, number.denominator)


def point(place):
    return Point(*[ratio(Fraction(number)) for number in place])


def place(told):
    """The place of a Point."""
    return Fraction(told.x.number, told.x.under), Fraction(told.y.number, told.y.under)


def pairs(marks):
    return list(itertools.combinations(marks, 2))


def height(one, other, at):
    """Above 0 for places to the left of the way from one to other."""
    return (other[0] - one[0]) * (at[1] - one[1]) - (other[1] - one[1]) * (at[0] - one[0])


def sign(number):
    return (number > 0) - (number < 0)


def sides(marks, at):
    return tuple(sign(height(marks[one], marks[other], at)) for one, other in pairs(marks))


def between(one, other, share):
    return tuple(a + (b - a) * Fraction(share) for a, b in zip(one, other))


def about(marks, at, among=None):
    """The round by turning to the left from the first mark on, by the ways to all of them."""
    names = list(marks if among is None else among)
    ways = {name: (marks[name][0] - at[0], marks[name][1] - at[1]) for name in names}
    first = ways[names[0]]

    def half(way):
        """0 straight ahead, 1 to the left, 2 straight behind, 3 to the right."""
        cross, dot = first[0] * way[1] - first[1] * way[0], first[0] * way[0] + first[1] * way[1]
        if cross == 0:
            return 0 if dot > 0 else 2
        return 1 if cross > 0 else 3

    def later(one, other):
        if half(one) != half(other):
            return half(one) - half(other)
        return -sign(one[0] * other[1] - one[1] * other[0]) if half(one) in (1, 3) else 0

    groups = []
    for name in sorted(names, key=cmp_to_key(lambda one, other: later(ways[one], ways[other]))):
        if groups and later(ways[groups[-1][0]], ways[name]) == 0:
            groups[-1].append(name)
        else:
            groups.append([name])
    return tuple(tuple(group) for group in groups)


def crossing(one, other):
    """The place that two pairs of places, taken as lines, have in common, or None."""
    begin, end = height(*one, other[0]), height(*one, other[1])
    return None if begin == end else between(other[0], other[1], Fraction(begin, 1) / (begin - end))


def lines_of(marks):
    return [(marks[one], marks[other]) for one, other in pairs(marks)]


def crossings(lines):
    return sorted({at for one, other in itertools.combinations(lines, 2) if (at := crossing(one, other)) is not None})


def places_everywhere(marks):
    """Places in all cells of a chart: crossings, places on the lines between and beyond these, and close to them."""
    spots = crossings(lines_of(marks))
    found = set(spots)
    little = Fraction(1, 10 ** 30)
    for one, other in lines_of(marks):
        along = [at for at in spots if height(one, other, at) == 0]
        way = max((other[0] - one[0], other[1] - one[1]), (one[0] - other[0], one[1] - other[1]))
        stops = [between(left, right, Fraction(1, 2)) for left, right in zip(along, along[1:])]
        stops.append((along[-1][0] + way[0], along[-1][1] + way[1]))
        stops.append((along[0][0] - way[0], along[0][1] - way[1]))
        for x, y in stops:
            found.update([(x, y), (x - way[1] * little, y + way[0] * little), (x + way[1] * little, y - way[0] * little)])
    return sorted(at for at in found if at not in marks.values())


def cells(marks):
    return sorted({sides(marks, at) for at in places_everywhere(marks)})


def in_land(corners, at):
    """Whether a place lies in a land, or in the whole plane."""
    return corners is None or all(height(one, other, at) >= 0 for one, other in zip(corners, corners[1:] + corners[:1]))


def places_within(marks, corners):
    """Places in all cells of a chart as far as they lie in a land: its corners, and places on its border, among them."""
    edges = list(zip(corners, corners[1:] + corners[:1]))
    spots = [at for at in crossings(lines_of(marks) + edges) if in_land(corners, at)]
    found = set(spots) | {between(one, other, Fraction(1, 2)) for one, other in zip(spots, spots[1:])}
    its_sides = {at: sides(marks, at) for at in spots}
    for cell in cells(marks):
        # Where the land has a part of a cell, it has the middle of the corners of this part.
        around = [at for at in spots if all(one in (0, other) for one, other in zip(its_sides[at], cell))]
        if around:
            found.add((sum(x for x, _ in around) / len(around), sum(y for _, y in around) / len(around)))
    return sorted(at for at in found if at not in marks.values())


def land_of(corners):
    return None if corners is None else Land(corners)


def adds_up(bars):
    """What the sum of (one, other, weight) is: the heights above these ways, each times its weight.

    It is told if it is the same number at all points, otherwise None.
    """
    totals = {sum(weight * height(one, other, at) for one, other, weight in bars) for at in ((0, 0), (1, 0), (0, 1))}
    return totals.pop() if len(totals) == 1 else None


def is_number(value):
    return type(value) is int


def is_paper(marks, asked, value):
    """What section 8 calls a paper for sides asked."""
    if type(value) is not tuple or not all(type(entry) is tuple and len(entry) == 2 for entry in value):
        return False
    lines = lines_of(marks)
    if not all(is_number(number) and is_number(weight) and 0 <= number < len(lines) for number, weight in value):
        return False
    numbers = [number for number, _ in value]
    if numbers != sorted(set(numbers)) or any(weight == 0 for _, weight in value):
        return False
    if any(asked[number] not in (0, sign(weight)) for number, weight in value):
        return False
    total = adds_up([(*lines[number], weight) for number, weight in value])
    if total is None or total > 0:
        return False
    return total < 0 or any(asked[number] != 0 for number in numbers)


def is_place_of(marks, asked, value):
    """Whether a value is right as a result of place_of."""
    if type(value) is not tuple or len(value) != 2 or type(value[0]) is not str:
        return False
    word, told = value
    if word == "place":
        return type(told) is Point and place(told) not in marks.values() and sides(marks, place(told)) == asked
    if word == "mark":
        return type(told) is str and told in marks and sides(marks, marks[told]) == asked
    return word == "never" and is_paper(marks, asked, told)


def touch(one, other):
    """Whether two cells touch, as section 8 tells it."""
    def borders(small, large):
        return all(a in (0, b) for a, b in zip(small, large))
    return one != other and (borders(one, other) or borders(other, one))


def pieces(some):
    """The parts of some cells that hang together."""
    parts = []
    for cell in some:
        near = [part for part in parts if any(touch(cell, other) for other in part)]
        parts = [part for part in parts if part not in near] + [sorted([cell, *itertools.chain(*near)])]
    return tuple(tuple(part) for part in sorted(parts))
