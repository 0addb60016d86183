"""Looks: which rounds tell on which side of a line one stands."""

from seenabout.charts import pair_number
from seenabout.errors import BadAsk
from seenabout.lands import borders_of, check_land
from seenabout.plane import point_of
from seenabout.points import Point
from seenabout.seeing import left_of
from seenabout.sights import about, chosen_marks, mark_at, round_from, sides


def is_ask(chart, value):
    """Whether any value is a pair of two unlike marks."""
    return (isinstance(value, tuple) and len(value) == 2 and value[0] in chart and value[1] in chart
            and value[0] != value[1])


def _check_ask(chart, ask):
    """Refuse any value that is no ask."""
    if not is_ask(chart, ask):
        raise BadAsk(ask)


def views(chart, land, chosen):
    """All (round, cell, spot): for each cell with places in the land the round of the chosen marks, and a place."""
    plane = chart.plane
    inside = plane.spots_within(borders_of(land))
    return [(round_from(chart, plane.cells[at], chosen), plane.cells[at], spot) for at, spot in inside.items()]


def two_places(some, number):
    """Of some views two Points with the same round and unlike sides of a pair, or None."""
    ahead = {}
    for seen, cell, spot in some:
        side, its_spot = ahead.setdefault(seen, (cell[number], spot))
        if side != cell[number]:
            return point_of(its_spot), point_of(spot)
    return None


def _unsettled(chart, ask, land, chosen):
    """Two places of the land with unlike answers and the same round of the chosen marks, or None."""
    return two_places(views(chart, land, chosen), pair_number(chart, ask[0], ask[1]))


def mixed(chart, ask, *, land=None, among=None):
    """Two places of the land with unlike answers and the same round, or None if the rounds settle the ask."""
    _check_ask(chart, ask)
    check_land(land)
    return _unsettled(chart, ask, land, chosen_marks(chart, among))


def _is_place(chart, land, value):
    """Whether any value is a place of the land."""
    return isinstance(value, Point) and mark_at(chart, value) is None and (land is None or value in land)


def shows_mixed(chart, ask, value, *, land=None, among=None):
    """Whether any value is such a result of mixed."""
    _check_ask(chart, ask)
    check_land(land)
    chosen = chosen_marks(chart, among)
    if value is None:
        return _unsettled(chart, ask, land, chosen) is None
    if not isinstance(value, tuple) or len(value) != 2 or not all([_is_place(chart, land, one) for one in value]):
        return False
    number = pair_number(chart, ask[0], ask[1])
    one, other = value
    return (sides(chart, one)[number] != sides(chart, other)[number]
            and about(chart, one, among=among) == about(chart, other, among=among))


def _choices(names, many):
    """All choices of so many names, as they stand."""
    if many == 0:
        return [()]
    return [(name, *rest) for at, name in enumerate(names) for rest in _choices(names[at + 1:], many - 1)]


def fewest_marks(chart, ask, *, land=None):
    """The first choice of marks whose rounds settle an ask, with two places for each choice ahead of it."""
    _check_ask(chart, ask)
    check_land(land)
    number = pair_number(chart, ask[0], ask[1])
    unlike = {(view[0], view[1][number]): view for view in views(chart, land, chosen_marks(chart, None))}
    some = list(unlike.values())
    # What the rounds of all marks leave open, those of fewer marks do, too.
    always = two_places(some, number)
    reasons = []
    for many in range(3, len(chart) + 1):
        for names in _choices(chart.names, many):
            found = always
            if found is None:
                found = two_places([(left_of(seen, names), cell, spot) for seen, cell, spot in some], number)
            if found is None:
                return "marks", names, tuple(reasons)
            reasons.append((names, *found))
    return "none", tuple(reasons)
