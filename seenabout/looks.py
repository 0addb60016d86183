"""Looks: which rounds tell on which side of a line one stands."""

from seenabout.charts import pair_number
from seenabout.errors import BadAsk
from seenabout.lands import borders_of, check_land
from seenabout.plane import point_of
from seenabout.points import Point
from seenabout.seeing import left_of
from seenabout.sights import about, chosen_marks, mark_at, round_from, sides


def is_ask(chart, value):
    """Whether any value is a pair of two unlike marks."""
    return (isinstance(value, tuple) and len(value) == 2 and value[0] in chart and value[1] in chart
            and value[0] != value[1])


def _check_ask(chart, ask):
    """Refuse any value that is no ask."""
    if not is_ask(chart, ask):
        raise BadAsk(ask)


def _views(chart, number, land, chosen):
    """All (round, side, spot): the rounds of the chosen marks that are seen in the land, with each side of a pair."""
    plane = chart.plane
    found = {}
    for at, spot in plane.spots_within(borders_of(land)).items():
        cell = plane.cells[at]
        found[round_from(chart, cell, chosen), cell[number]] = spot
    return [(seen, side, spot) for (seen, side), spot in found.items()]


def _two_places(views):
    """Two Points with one round and unlike sides, or None."""
    ahead = {}
    for seen, side, spot in views:
        other, its_spot = ahead.setdefault(seen, (side, spot))
        if other != side:
            return point_of(its_spot), point_of(spot)
    return None


def unsettled(chart, ask, land, chosen):
    """Two places of the land with unlike answers and the same round of the chosen marks, or None."""
    return _two_places(_views(chart, pair_number(chart, ask[0], ask[1]), land, chosen))


def mixed(chart, ask, *, land=None, among=None):
    """Two places of the land with unlike answers and the same round, or None if the rounds settle the ask."""
    _check_ask(chart, ask)
    check_land(land)
    return unsettled(chart, ask, land, chosen_marks(chart, among))


def _is_place(chart, land, value):
    """Whether any value is a place of the land."""
    return isinstance(value, Point) and mark_at(chart, value) is None and (land is None or value in land)


def shows_mixed(chart, ask, value, *, land=None, among=None):
    """Whether any value is such a result of mixed."""
    _check_ask(chart, ask)
    check_land(land)
    chosen = chosen_marks(chart, among)
    if value is None:
        return unsettled(chart, ask, land, chosen) is None
    if not isinstance(value, tuple) or len(value) != 2 or not all([_is_place(chart, land, one) for one in value]):
        return False
    number = pair_number(chart, ask[0], ask[1])
    one, other = value
    return (sides(chart, one)[number] != sides(chart, other)[number]
            and about(chart, one, among=among) == about(chart, other, among=among))


def _choices(names, many):
    """All choices of so many names, as they stand."""
    if many == 0:
        return [()]
    return [(name, *rest) for at, name in enumerate(names) for rest in _choices(names[at + 1:], many - 1)]


def fewest_marks(chart, ask, *, land=None):
    """The first choice of marks whose rounds settle an ask, with two places for each choice ahead of it."""
    _check_ask(chart, ask)
    check_land(land)
    views = _views(chart, pair_number(chart, ask[0], ask[1]), land, chosen_marks(chart, None))
    # What the rounds of all marks leave open, those of fewer marks do, too.
    always = _two_places(views)
    reasons = []
    for many in range(3, len(chart) + 1):
        for names in _choices(chart.names, many):
            found = always
            if found is None:
                found = _two_places([(left_of(seen, names), side, spot) for seen, side, spot in views])
            if found is None:
                return "marks", names, tuple(reasons)
            reasons.append((names, *found))
    return "none", tuple(reasons)
