"""All over again, by hand: what the document tells, reckoned with Python's own fractions, place by place.

Here a place is (x, y) of Fractions, and marks are a dict of places by name.
Nothing here uses what the package reckons, but for creating its objects.
"""

import itertools
from fractions import Fraction
from functools import cmp_to_key, lru_cache

from seenabout.charts import Chart
from seenabout.lands import Land
from seenabout.points import Point
from seenabout.ratios import Ratio

# Charts of all kinds, by their marks: with crossings of three lines in one
# point, with lines side by side, straight up and across, wide and narrow.
TRIANGLE = {"a": (0, 0), "b": (4, 0), "c": (0, 4)}
TURNED = {"a": (0, 0), "b": (0, 4), "c": (4, 0)}
SLANT = {"mill": (-7, 3), "oak": (5, -2), "z": (9, 8)}
SQUARE = {"a": (0, 0), "b": (4, 0), "c": (4, 4), "d": (0, 4)}
INNER = {"a": (0, 0), "b": (9, 1), "c": (2, 8), "d": (3, 3)}
LONG = {"west": (-999, -1), "east": (999, 2), "n": (0, 999), "s": (1, -998)}
FIVE = {"a": (0, 0), "b": (4, 0), "c": (0, 4), "d": (6, 6), "e": (1, -3)}
HOUSE = {"a": (0, 0), "b": (4, 0), "c": (4, 4), "d": (0, 4), "top": (2, 6)}
HEXAGON = {"a": (2, 0), "b": (1, 2), "c": (-1, 2), "d": (-2, 0), "e": (-1, -2), "f": (1, -2)}
SEVEN = {"a": (-40, 3), "b": (17, -30), "c": (25, 44), "d": (-9, -8), "e": (60, 5), "f": (-30, 51), "g": (3, 11)}
SEVEN_FLAT = {"a": (0, 0), "b": (6, 0), "c": (1, 1), "d": (5, 1), "e": (0, 3), "f": (6, 3), "g": (3, 7)}
FAR = {"d": (500, 600), "c": (503, 601), "b": (501, 604), "a": (-700, 990)}
SMALL = [TRIANGLE, TURNED, SLANT, SQUARE, INNER, LONG, FAR]
MIDDLE = [FIVE, HOUSE]
LARGE = [HEXAGON, SEVEN, SEVEN_FLAT]


def text_of(marks):
    return "\n".join(f"mark {name} {x} {y}" for name, (x, y) in marks.items())


def chart_of(marks):
    return Chart(text_of(marks))


def ratio(number):
    return Ratio(number.numerator, number.denominator)


def point(place):
    return Point(*[ratio(Fraction(number)) for number in place])


def place(told):
    """The place of a Point."""
    return Fraction(told.x.number, told.x.under), Fraction(told.y.number, told.y.under)


def pairs(marks):
    return list(itertools.combinations(marks, 2))


def height(one, other, at):
    """Above 0 for places to the left of the way from one to other."""
    return (other[0] - one[0]) * (at[1] - one[1]) - (other[1] - one[1]) * (at[0] - one[0])


def sign(number):
    return (number > 0) - (number < 0)


def sides(marks, at):
    return tuple(sign(height(marks[one], marks[other], at)) for one, other in pairs(marks))


def between(one, other, share):
    return tuple(a + (b - a) * Fraction(share) for a, b in zip(one, other))


def about(marks, at, among=None):
    """The round by turning to the left from the first mark on, by the ways to all of them."""
    names = list(marks if among is None else among)
    ways = {name: (marks[name][0] - at[0], marks[name][1] - at[1]) for name in names}
    first = ways[names[0]]

    def half(way):
        """0 straight ahead, 1 to the left, 2 straight behind, 3 to the right."""
        cross, dot = first[0] * way[1] - first[1] * way[0], first[0] * way[0] + first[1] * way[1]
        if cross == 0:
            return 0 if dot > 0 else 2
        return 1 if cross > 0 else 3

    def later(one, other):
        if half(one) != half(other):
            return half(one) - half(other)
        return -sign(one[0] * other[1] - one[1] * other[0]) if half(one) in (1, 3) else 0

    groups = []
    for name in sorted(names, key=cmp_to_key(lambda one, other: later(ways[one], ways[other]))):
        if groups and later(ways[groups[-1][0]], ways[name]) == 0:
            groups[-1].append(name)
        else:
            groups.append([name])
    return tuple(tuple(group) for group in groups)


def crossing(one, other):
    """The place that two pairs of places, taken as lines, have in common, or None."""
    begin, end = height(*one, other[0]), height(*one, other[1])
    return None if begin == end else between(other[0], other[1], Fraction(begin, 1) / (begin - end))


def lines_of(marks):
    return [(marks[one], marks[other]) for one, other in pairs(marks)]


def crossings(lines):
    return sorted({at for one, other in itertools.combinations(lines, 2) if (at := crossing(one, other)) is not None})


def places_everywhere(marks):
    """Places in all cells of a chart: crossings, places on the lines between and beyond these, and close to them."""
    spots = crossings(lines_of(marks))
    found = set(spots)
    little = Fraction(1, 10 ** 30)
    for one, other in lines_of(marks):
        along = [at for at in spots if height(one, other, at) == 0]
        way = max((other[0] - one[0], other[1] - one[1]), (one[0] - other[0], one[1] - other[1]))
        stops = [between(left, right, Fraction(1, 2)) for left, right in zip(along, along[1:])]
        stops.append((along[-1][0] + way[0], along[-1][1] + way[1]))
        stops.append((along[0][0] - way[0], along[0][1] - way[1]))
        for x, y in stops:
            found.update([(x, y), (x - way[1] * little, y + way[0] * little), (x + way[1] * little, y - way[0] * little)])
    return sorted(at for at in found if at not in marks.values())


def cells(marks):
    return list(cells_of(tuple(marks.items())))


@lru_cache(maxsize=None)
def cells_of(items):
    return sorted({sides(dict(items), at) for at in places_everywhere(dict(items))})


def in_land(corners, at):
    """Whether a place lies in a land, or in the whole plane."""
    return corners is None or all(height(one, other, at) >= 0 for one, other in zip(corners, corners[1:] + corners[:1]))


def places_within(marks, corners):
    """Places in all cells of a chart as far as they lie in a land: its corners, and places on its border, among them."""
    edges = list(zip(corners, corners[1:] + corners[:1]))
    spots = [at for at in crossings(lines_of(marks) + edges) if in_land(corners, at)]
    found = set(spots) | {between(one, other, Fraction(1, 2)) for one, other in zip(spots, spots[1:])}
    its_sides = {at: sides(marks, at) for at in spots}
    for cell in cells(marks):
        # Where the land has a part of a cell, it has the middle of the corners of this part.
        around = [at for at in spots if all(one in (0, other) for one, other in zip(its_sides[at], cell))]
        if around:
            found.add((sum(x for x, _ in around) / len(around), sum(y for _, y in around) / len(around)))
    return sorted(at for at in found if at not in marks.values())


def land_of(corners):
    return None if corners is None else Land(corners)


def adds_up(bars):
    """What the sum of (one, other, weight) is: the heights above these ways, each times its weight.

    It is told if it is the same number at all points, otherwise None.
    """
    totals = {sum(weight * height(one, other, at) for one, other, weight in bars) for at in ((0, 0), (1, 0), (0, 1))}
    return totals.pop() if len(totals) == 1 else None


def is_number(value):
    return type(value) is int


def is_paper(marks, asked, value):
    """What section 8 calls a paper for sides asked."""
    if type(value) is not tuple or not all(type(entry) is tuple and len(entry) == 2 for entry in value):
        return False
    lines = lines_of(marks)
    if not all(is_number(number) and is_number(weight) and 0 <= number < len(lines) for number, weight in value):
        return False
    numbers = [number for number, _ in value]
    if numbers != sorted(set(numbers)) or any(weight == 0 for _, weight in value):
        return False
    if any(asked[number] not in (0, sign(weight)) for number, weight in value):
        return False
    total = adds_up([(*lines[number], weight) for number, weight in value])
    if total is None or total > 0:
        return False
    return total < 0 or any(asked[number] != 0 for number in numbers)


def is_place_of(marks, asked, value):
    """Whether a value is right as a result of place_of."""
    if type(value) is not tuple or len(value) != 2 or type(value[0]) is not str:
        return False
    word, told = value
    if word == "place":
        return type(told) is Point and place(told) not in marks.values() and sides(marks, place(told)) == asked
    if word == "mark":
        return type(told) is str and told in marks and sides(marks, marks[told]) == asked
    return word == "never" and is_paper(marks, asked, told)


def touch(one, other):
    """Whether two cells touch, as section 8 tells it."""
    def borders(small, large):
        return all(a in (0, b) for a, b in zip(small, large))
    return one != other and (borders(one, other) or borders(other, one))


def pieces(some):
    """The parts of some cells that hang together."""
    parts = []
    for cell in some:
        near = [part for part in parts if any(touch(cell, other) for other in part)]
        parts = [part for part in parts if part not in near] + [sorted([cell, *itertools.chain(*near)])]
    return tuple(tuple(part) for part in sorted(parts))


def left_of(asked, names):
    """What is left of a round if all other names are left out."""
    groups = [tuple(name for name in group if name in names) for group in asked]
    groups = [group for group in groups if group]
    while names[0] not in groups[0]:
        groups = groups[1:] + groups[:1]
    return tuple(groups)


@lru_cache(maxsize=None)
def rounds_of_three(items):
    """What is seen of three marks, told by name and place, at all places, by the sides there."""
    marks = dict(items)
    return {sides(marks, at): about(marks, at) for at in places_everywhere(marks)}


class Quest:
    """What trees have to show: that from no place within these corners this round of these names is seen."""

    def __init__(self, marks, asked, corners=None, among=None):
        self.marks, self.asked, self.corners = marks, asked, corners
        self.names = list(marks if among is None else among)
        self.pairs = pairs(marks)
        self.edges = [] if corners is None else list(zip(corners, corners[1:] + corners[:1]))

    def is_paper(self, value, taken):
        if type(value) is not tuple or not all(type(entry) is tuple and len(entry) == 3 for entry in value):
            return False
        bars, places, strict = [], [], False
        for word, number, weight in value:
            if word not in ("edge", "pair") or type(word) is not str or not is_number(number) or not is_number(weight) or not weight:
                return False
            if word == "edge":
                if not 0 <= number < len(self.edges) or weight < 0:
                    return False
                bars.append((*self.edges[number], weight))
            else:
                if number not in taken or taken[number] not in (0, sign(weight)):
                    return False
                strict = strict or taken[number] != 0
                bars.append((*lines_of(self.marks)[number], weight))
            places.append((word, number))
        total = adds_up(bars)
        return places == sorted(set(places)) and total is not None and (total < 0 or (total == 0 and strict))

    def is_other(self, value, taken):
        if type(value) is not tuple or len(value) != 3 or not all(type(name) is str for name in value):
            return False
        if list(value) != [name for name in self.names if name in value]:
            return False
        numbers = [self.pairs.index(pair) for pair in itertools.combinations(value, 2)]
        told = tuple(taken.get(number) for number in numbers)
        seen = rounds_of_three(tuple((name, self.marks[name]) for name in value))
        return told in seen and seen[told] != left_of(self.asked, value)

    def is_leaf(self, word, value, taken):
        if word == "barred":
            return self.is_paper(value, taken)
        if word == "mark":
            on = [number for number, side in taken.items() if side == 0 and value in self.pairs[number]]
            return type(value) is str and len(on) > 1
        return word == "other" and self.is_other(value, taken)

    def is_tree(self, value, taken):
        if type(value) is not tuple or not value or type(value[0]) is not str:
            return False
        if value[0] != "split":
            return len(value) == 2 and self.is_leaf(*value, taken)
        if len(value) != 5 or not is_number(value[1]) or not 0 <= value[1] < len(self.pairs) or value[1] in taken:
            return False
        return all(self.is_tree(branch, {**taken, value[1]: side}) for branch, side in zip(value[2:], (1, 0, -1)))

    def is_seen_from(self, value):
        """Whether a value is right as a result of seen_from."""
        if type(value) is not tuple or len(value) != 2 or type(value[0]) is not str:
            return False
        if value[0] == "never":
            return self.is_tree(value[1], {})
        if value[0] != "place" or type(value[1]) is not Point:
            return False
        at = place(value[1])
        return at not in self.marks.values() and in_land(self.corners, at) and about(self.marks, at, self.names) == self.asked

    def leaf_for(self, tree, cell):
        """The leaf to which these sides lead."""
        while tree[0] == "split":
            tree = tree[{1: 2, 0: 3, -1: 4}[cell[tree[1]]]]
        return tree

    def grow(self, order, taken=None):
        """A tree that splits by the pairs in this sequence, whatever they are good for."""
        taken = {} if taken is None else taken
        for leaf in self.leaves(taken):
            if self.is_leaf(*leaf, taken):
                return leaf
        number = [number for number in order if number not in taken][0]
        return ("split", number, *[self.grow(order, {**taken, number: side}) for side in (1, 0, -1)])

    def leaves(self, taken):
        """Leaves that may end a tree with these sides taken."""
        yield from [("mark", name) for name in self.marks]
        yield from [("other", names) for names in itertools.combinations(self.names, 3)]
        bars = [("edge", number, *edge) for number, edge in enumerate(self.edges)]
        bars += [("pair", number, *lines_of(self.marks)[number]) for number in sorted(taken)]
        for some in [*itertools.combinations(bars, 2), *itertools.combinations(bars, 3)]:
            for weights in even_weights([(one, other) for _, _, one, other in some]):
                entries = [(word, number, weight) for (word, number, *_), weight in zip(some, weights) if weight]
                yield "barred", tuple(entries)


def even_weights(ways):
    """Weights with which the heights above two or three ways add up to one number."""
    first, second, *rest = [(other[0] - one[0], other[1] - one[1]) for one, other in ways]
    if rest:
        weights = height((0, 0), second, rest[0]), -height((0, 0), first, rest[0]), height((0, 0), first, second)
    elif height((0, 0), first, second) == 0:
        weights = first[0] * second[0] + first[1] * second[1], -first[0] ** 2 - first[1] ** 2
    else:
        return []
    return [weights, tuple(-weight for weight in weights)]


def on_way(start, goal, at):
    """The share of the straight way from start to goal at which a place lies, or None if it is not on its line."""
    if height(start, goal, at) != 0:
        return None
    axis = 0 if start[0] != goal[0] else 1
    return Fraction(at[axis] - start[axis]) / (goal[axis] - start[axis])


def marks_on_way(marks, start, goal):
    """The names of the marks that are met between start and goal, in sequence."""
    shares = {name: on_way(start, goal, at) for name, at in marks.items()}
    return sorted((name for name, share in shares.items() if share is not None and 0 < share < 1), key=shares.get)


def crossed(marks, start, goal):
    """What crossed tells, with moments as Fractions."""
    found = {}
    for number, line in enumerate(lines_of(marks)):
        at = crossing(line, (start, goal))
        moment = None if at is None else on_way(start, goal, at)
        if moment is not None and 0 <= moment <= 1:
            found.setdefault(moment, []).append(number)
    return [(moment, tuple(found[moment])) for moment in sorted(found)]


def seen_on(marks, start, goal):
    """The rounds on a way: at each line, between any two, and at both ends."""
    moments = [Fraction(0), *[moment for moment, _ in crossed(marks, start, goal)], Fraction(1)]
    stops = sorted({*moments, *[(one + other) / 2 for one, other in zip(moments, moments[1:])]})
    seen = [about(marks, between(start, goal, stop)) for stop in stops]
    return tuple(told for told, ahead in zip(seen, [None, *seen]) if told != ahead)


def exchanges_on(marks, start, goal):
    """How often one of a pair is exchanged with the other on a straight way: lines crossed beyond both marks."""
    many = 0
    for one, other in lines_of(marks):
        at = crossing((one, other), (start, goal))
        if at is not None and 0 < on_way(start, goal, at) < 1:
            many += not 0 < on_way(one, other, at) < 1
    return many


@lru_cache(maxsize=None)
def gates(items):
    """For each cell with just one side 0 the two cells beside it, and the exchanges between these."""
    marks, found = dict(items), {}
    for at in places_everywhere(marks):
        cell = sides(marks, at)
        if cell.count(0) == 1:
            number = cell.index(0)
            beyond = not 0 < on_way(*lines_of(marks)[number], at) < 1
            one, other = [cell[:number] + (side,) + cell[number + 1:] for side in (1, -1)]
            found[cell] = one, other, int(beyond)
    return list(found.values())


def fewest(marks, start):
    """For each cell without side 0 the fewest exchanges from start, by trying until nothing gets better."""
    found, some = {sides(marks, start): 0}, gates(tuple(marks.items()))
    while True:
        better = {}
        for one, other, many in [*some, *[(other, one, many) for one, other, many in some]]:
            if one in found and found[one] + many < min(found.get(other, 10 ** 6), better.get(other, 10 ** 6)):
                better[other] = found[one] + many
        if not better:
            return found
        found.update(better)


def is_way(marks, start, goal, value):
    """Whether a value is a way as section 11 tells it, with whatever number of exchanges."""
    if type(value) is not tuple or not value or not all(type(stop) is Point for stop in value):
        return False
    stops = [place(stop) for stop in value]
    if stops[0] != start or stops[-1] != goal or (start == goal and len(stops) > 1):
        return False
    if any(one == other for one, other in zip(stops, stops[1:])) or any(0 in sides(marks, stop) for stop in stops):
        return False
    return not any(marks_on_way(marks, one, other) for one, other in zip(stops, stops[1:]))


def is_fewest(marks, start, goal, value):
    """Whether a value is right as a result of fewest."""
    if type(value) is not tuple or len(value) != 3 or not is_number(value[0]) or not is_way(marks, start, goal, value[1]):
        return False
    number, stops, faces = value[0], [place(stop) for stop in value[1]], [cell for cell in cells(marks) if 0 not in cell]
    if sum(exchanges_on(marks, one, other) for one, other in zip(stops, stops[1:])) != number:
        return False
    if type(value[2]) is not tuple or len(value[2]) != len(faces) or not all(is_number(level) for level in value[2]):
        return False
    levels = dict(zip(faces, value[2]))
    if levels[sides(marks, start)] != 0 or levels[sides(marks, goal)] != number:
        return False
    return all(abs(levels[one] - levels[other]) <= many for one, other, many in gates(tuple(marks.items())))


@lru_cache(maxsize=None)
def seen_by_cell(items):
    """For each cell the round that is seen from there."""
    marks = dict(items)
    return {sides(marks, at): about(marks, at) for at in places_everywhere(marks)}


@lru_cache(maxsize=None)
def touching(items):
    """For each cell those that touch it."""
    some = cells(dict(items))
    return {cell: [other for other in some if touch(cell, other)] for cell in some}


def on_logs(marks, log):
    """(begun, now): the cells of all ways with a log, found step by step as (cell, how many rounds are written)."""
    items = tuple(marks.items())
    seen, near = seen_by_cell(items), touching(items)

    def follow(log):
        waiting = [(cell, 0) for cell in seen if seen[cell] == log[0]]
        found = set(waiting)
        while waiting:
            cell, at = waiting.pop()
            steps = [(other, then) for other in near[cell] for then in (at, at + 1) if log[then:then + 1] == (seen[other],)]
            waiting.extend(state for state in steps if state not in found)
            found.update(steps)
        return tuple(sorted(cell for cell, at in found if at == len(log) - 1))

    return follow(log[::-1]), follow(log)


def is_on_piece(marks, step, at):
    """Whether a place is on the piece of a step."""
    one, other = marks[step[3]], marks[step[4]]
    share = on_way(one, other, at)
    return share is not None and (not 0 < share < 1 if step[2] == "until" else 0 <= share <= 1)


def step_end(marks, step, at):
    """The place at which a step ends, or "at" or "ever"."""
    goal = marks[step[1]]
    if is_on_piece(marks, step, at):
        return at
    if at == goal:
        return "at"
    ahead = goal if step[0] == "towards" else (2 * at[0] - goal[0], 2 * at[1] - goal[1])
    one, other = marks[step[3]], marks[step[4]]
    cross = crossing((at, ahead), (one, other))
    ends = [end for end in ([one, other] if cross is None else [cross]) if is_on_piece(marks, step, end)]
    shares = [on_way(at, ahead, end) for end in ends]
    shares = [share for share in shares if share is not None and share > 0 and (share <= 1 or step[0] == "from")]
    if not shares:
        return "at" if step[0] == "towards" else "ever"
    return between(at, ahead, min(shares))


def walked(marks, steps, at):
    """What walked tells, with places: (word, line, places)."""
    line, places = 0, [at]
    while line < len(steps):
        step = steps[line]
        line += 1
        if step[0] == "skip":
            line += step[1] if height(marks[step[3]], marks[step[4]], places[-1]) > 0 else 0
            continue
        end = step_end(marks, step, places[-1])
        if end in ("at", "ever"):
            return end, line, tuple(places)
        places.append(end)
    return "done", 0, tuple(places)


@lru_cache(maxsize=None)
def seen_within(items, corners):
    """For each cell as far as it lies in a land, or in the whole plane: (sides, the round that is seen from there)."""
    marks = dict(items)
    some = places_everywhere(marks) if corners is None else places_within(marks, corners)
    places = {sides(marks, at): at for at in some}
    return [(cell, about(marks, at)) for cell, at in places.items()]


def settles(marks, ask, corners=None, among=None):
    """Whether from no two places of the land with unlike answers the same round is seen."""
    number = [set(pair) for pair in pairs(marks)].index(set(ask))
    answers = {}
    for cell, seen in seen_within(tuple(marks.items()), corners):
        told = seen if among is None else left_of(seen, among)
        if answers.setdefault(told, cell[number]) != cell[number]:
            return False
    return True


def is_mixed(marks, ask, value, corners=None, among=None):
    """Whether a value is right as a result of mixed."""
    if value is None:
        return settles(marks, ask, corners, among)
    if type(value) is not tuple or len(value) != 2 or not all(type(told) is Point for told in value):
        return False
    places, (one, other) = [place(told) for told in value], [marks[name] for name in ask]
    if any(at in marks.values() or not in_land(corners, at) for at in places):
        return False
    answers = [sign(height(one, other, at)) for at in places]
    return answers[0] != answers[1] and about(marks, places[0], among) == about(marks, places[1], among)
