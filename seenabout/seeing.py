"""Which rounds are seen from somewhere, and by what it is shown that one is seen from no place."""

from seenabout.cells import shows_no_point, weights_with
from seenabout.errors import BadRound
from seenabout.lands import borders_of, check_land
from seenabout.plane import heights_at, point_of, sides_at
from seenabout.points import Point
from seenabout.ratios import is_integer
from seenabout.sights import about, chosen_marks, mark_at, places_among, round_from


def is_round(names, value):
    """Whether any value is a round of the marks with these names by its form."""
    if not isinstance(value, tuple):
        return False
    groups = [places_among(names, group) for group in value]
    if None in groups or [] in groups:
        return False
    marks = [mark for group in groups for mark in group]
    return sorted(marks, key=int) == list(range(len(names))) and marks[0] == 0


def check_round(names, asked):
    """Refuse any value that is no round asked of the marks with these names."""
    if not is_round(names, asked):
        raise BadRound(asked)


def rounds_in_sequence(some):
    """The ascending tuple of some rounds of the same marks."""
    # A blank stands ahead of a comma, and both ahead of the letters: so these
    # texts ascend as the rounds do.
    by_text = {" ".join([",".join(group) for group in seen]): seen for seen in some}
    return tuple([by_text[text] for text in sorted(list(by_text), key=str)])


def rounds(chart, *, land=None, among=None):
    """The ascending tuple of all rounds that are seen from places of the land."""
    check_land(land)
    chosen = chosen_marks(chart, among)
    plane = chart.plane
    numbers = list(plane.spots_within(borders_of(land)))
    return rounds_in_sequence([round_from(chart, plane.cells[number], chosen) for number in numbers])


def where(chart, asked, *, among=None):
    """The ascending tuple of all cells from which a round is seen."""
    chosen = chosen_marks(chart, among)
    check_round([chart.names[mark] for mark in chosen], asked)
    return tuple([cell for cell in chart.plane.cells if round_from(chart, cell, chosen) == asked])


def left_of(asked, names):
    """What is left of a round if all names but these are left out."""
    groups = [tuple([name for name in group if name in names]) for group in asked]
    groups = [group for group in groups if group]
    first = [names[0] in group for group in groups].index(True)
    return tuple(groups[first:] + groups[:first])


def _sides_of_three(chart, three):
    """The sides, at most one of them 0, that there are at places for the pairs of three marks."""
    one, other, third = three
    line = chart.plane.lines[chart.pair_at[one, other]]
    _, x, y = chart.marks[third]
    turn = sides_at([line], (x, y, 1))[0]
    found = []
    for first in (turn, 0, -turn):
        for second in (turn, 0, -turn):
            for last in (turn, 0, -turn):
                told = (first, second, last)
                # No place lies outside of all three lines, as one goes round the marks.
                if told.count(0) < 2 and (first == turn or second == -turn or last == turn):
                    found.append(told)
    return found


class Three:
    """Three marks of among, and for the sides of their pairs whether the round asked can be seen there.

    fits has the sides, at most one of them 0, that there are at places.
    """

    def __init__(self, chart, asked, three):
        one, other, third = three
        numbers = [chart.pair_at[one, other], chart.pair_at[one, third], chart.pair_at[other, third]]
        names = tuple([chart.names[mark] for mark in three])
        wanted = left_of(asked, names)
        self.names = names
        self.pair_numbers = numbers
        self.fits = {}
        for told in _sides_of_three(chart, three):
            self.fits[told] = round_from(chart, dict(zip(numbers, told)), three) == wanted

    def can_fit(self, cell):
        """1 if the sides of a cell leave open that the round asked is seen there, otherwise 0."""
        one, other, third = self.pair_numbers
        return 1 if self.fits.get((cell[one], cell[other], cell[third])) is True else 0

    def is_unlike(self, taken):
        """Whether the sides taken are there at places, and the round asked is not."""
        told = tuple([taken.get(number) for number in self.pair_numbers])
        return self.fits.get(told) is False


class Quest:
    """Whether a round is seen from a place of the land with these borders."""

    def __init__(self, chart, asked, borders, chosen):
        self.chart = chart
        self.borders = borders
        self.threes = [Three(chart, asked, (one, other, third)) for one in chosen
                       for other in chosen if one < other for third in chosen if other < third]


def _mark_of(chart, taken):
    """The name of a mark for two pairs of which the side 0 was taken, or None."""
    on = [name for number, side in taken.items() if side == 0 for name in chart.pairs[number]]
    twice = [name for name in on if on.count(name) > 1]
    return twice[0] if twice else None


def _bars(quest, taken):
    """What a paper may be made of: by (word, number) the bars of the borders, and of the sides taken."""
    bars = {("edge", number): (line, 1, False) for number, line in enumerate(quest.borders)}
    for number in sorted(list(taken), key=int):
        bars["pair", number] = (quest.chart.plane.lines[number], taken[number], taken[number] != 0)
    return bars


def _barring(quest, taken, newest):
    """The paper that shows that no point of the land has the sides taken; it has those without the newest one."""
    bars = _bars(quest, taken)
    marked = list(bars)
    last = marked.index(("pair", newest))
    others = [at for at in range(len(marked)) if at != last]
    weights = weights_with([bars[one] for one in marked], last, others)
    return tuple([marked[at] + (weights[at],) for at in sorted(list(weights), key=int)])


def _leaf(quest, taken, newest, alive):
    """The leaf that ends a branch with these sides taken, or None."""
    mark = _mark_of(quest.chart, taken)
    if mark is not None:
        return "mark", mark
    for three in quest.threes:
        if three.is_unlike(taken):
            return "other", three.names
    if not alive:
        return "barred", _barring(quest, taken, newest)
    return None


def _next_pair(quest, taken, alive):
    """The number of the pair by which to split: one of those three marks that leave the fewest cells open."""
    best, rows = None, [row for _, row in alive]
    for three, left in zip(quest.threes, [sum(column) for column in zip(*rows)]):
        free = [number for number in three.pair_numbers if number not in taken]
        if free and (best is None or (left, len(free)) < best[0]):
            best = (left, len(free)), free[0]
    return best[1]


def _tree(quest, taken, newest, alive):
    """The tree that shows that the round is seen from no place with the sides taken.

    alive are the sides of all cells and marks of the land with these, with what
    the threes leave open of them.
    """
    leaf = None if newest is None else _leaf(quest, taken, newest, alive)
    if leaf is not None:
        return leaf
    number = _next_pair(quest, taken, alive)
    branches = [_tree(quest, {**taken, number: side}, number, [one for one in alive if one[0][number] == side])
                for side in (1, 0, -1)]
    return "split", number, *branches


def _never(chart, asked, land, chosen, numbers):
    """A tree that shows that a round is seen from none of the cells with these numbers, all that the land has."""
    quest = Quest(chart, asked, borders_of(land), chosen)
    inside = [spot for spot in chart.spots if all([high >= 0 for high in heights_at(quest.borders, spot)])]
    some = [chart.plane.cells[number] for number in numbers]
    some.extend([sides_at(chart.plane.lines, spot) for spot in inside])
    return _tree(quest, {}, None, [(cell, [three.can_fit(cell) for three in quest.threes]) for cell in some])


def seen_from(chart, asked, *, land=None, among=None):
    """A place of the land from which a round is seen, or a tree that shows that there is none."""
    check_land(land)
    chosen = chosen_marks(chart, among)
    check_round([chart.names[mark] for mark in chosen], asked)
    spots = chart.plane.spots_within(borders_of(land))
    for number, spot in spots.items():
        if round_from(chart, chart.plane.cells[number], chosen) == asked:
            return "place", point_of(spot)
    return "never", _never(chart, asked, land, chosen, list(spots))


def _is_entry(bars, value):
    """Whether any value is an edge or a pair that a paper may be made of, with a weight."""
    if not isinstance(value, tuple) or len(value) != 3 or not isinstance(value[0], str):
        return False
    word, number, weight = value
    return is_integer(number) and is_integer(weight) and weight != 0 and (word, number) in bars


def _is_paper(quest, value, taken):
    """Whether any value is a paper that shows that no point of the land has the sides taken."""
    bars = _bars(quest, taken)
    if not isinstance(value, tuple) or not all([_is_entry(bars, entry) for entry in value]):
        return False
    if not all([one[:2] < other[:2] for one, other in zip(value, value[1:])]):
        return False
    return shows_no_point([(bars[word, number], weight) for word, number, weight in value])


def _are_unlike(quest, value, taken):
    """Whether any value is the names of three of the marks whose round is another one with the sides taken."""
    return any([three.names == value and three.is_unlike(taken) for three in quest.threes])


def _is_twice_on(quest, value, taken):
    """Whether any value is a mark for two pairs of which, or more, the side 0 was taken."""
    on = [number for number, side in taken.items() if side == 0 and value in quest.chart.pairs[number]]
    return len(on) > 1


def _is_tree(quest, value, taken):
    """Whether any value is a tree that is right behind these sides taken."""
    if not isinstance(value, tuple):
        return False
    if len(value) == 5 and value[0] == "split":
        number = value[1]
        if not is_integer(number) or not 0 <= number < len(quest.chart.pairs) or number in taken:
            return False
        return all([_is_tree(quest, branch, {**taken, number: side}) for branch, side in zip(value[2:], (1, 0, -1))])
    if len(value) != 2:
        return False
    word, told = value
    if word == "barred":
        return _is_paper(quest, told, taken)
    if word == "mark":
        return _is_twice_on(quest, told, taken)
    return word == "other" and _are_unlike(quest, told, taken)


def shows_seen_from(chart, asked, value, *, land=None, among=None):
    """Whether any value is such a result of seen_from."""
    check_land(land)
    chosen = chosen_marks(chart, among)
    check_round([chart.names[mark] for mark in chosen], asked)
    if not isinstance(value, tuple) or len(value) != 2:
        return False
    word, told = value
    if word == "never":
        return _is_tree(Quest(chart, asked, borders_of(land), chosen), told, {})
    if word != "place" or not isinstance(told, Point) or mark_at(chart, told) is not None:
        return False
    return (land is None or told in land) and about(chart, told, among=among) == asked
