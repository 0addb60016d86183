"""Point 2 over the whole program: arguments by position or by their names, equal calls, what is told of nothing else."""

import unittest

from seenabout import cells, charts, choosing, comparing, desk, errors, journals, lands, laps, logs, looks, points, ratios, scripts, seeing, sights, walkers, ways
from seenabout.points import Point
from seenabout.ratios import Ratio
from tests.wrong import is_same

TEXT = "mark a 0 0\nmark b 4 0\nmark c 0 4"
CHART = charts.Chart(TEXT)
FIVE = charts.Chart(TEXT + "\nmark d 6 6\nmark e 1 -3")
LAND = lands.Land(((1, 1), (5, 1), (1, 5)))
WIDE = lands.Land(((5, -3), (8, -3), (8, 1), (5, 1)))
ABC, ACB, CORNER = (("a",), ("b",), ("c",)), (("a",), ("c",), ("b",)), (("a", "c"), ("b",))
SCRIPT = scripts.Script("from c between a b")
NEVER = ("never", ((0, -1), (1, 1), (2, -1)))
JOURNAL = TEXT + "\nat 1 1\nfrom c between a b"


def walker():
    return journals.read_journal(JOURNAL)


def lap():
    return laps.Lap(FIVE, scripts.Script("towards d between a c\ntowards e between a b"))


# Each call: what is called, its arguments by name as they stand, and how many of them may be passed by position.
CALLS = [
    (ratios.Ratio, {"number": 6, "under": -4}, 2),
    (ratios.Ratio.of, {"text": "-3/2"}, 1),
    (Ratio(1, 2).divided, {"other": 3}, 1),
    (points.Point, {"x": 1, "y": Ratio(1, 2)}, 2),
    (points.Point.of, {"text": "1 1/2"}, 1),
    (Point(0, 4).towards, {"other": Point(1, 1), "share": 2}, 2),
    (points.Line, {"one": Point(0, 0), "other": Point(1, 2)}, 2),
    (points.Line(Point(0, 0), Point(4, 0)).height, {"point": Point(1, 1)}, 1),
    (points.Line(Point(0, 0), Point(4, 0)).share, {"point": Point(1, 0)}, 1),
    (charts.Chart, {"text": TEXT}, 1),
    (CHART.line, {"one": "c", "other": "a"}, 2),
    (FIVE.without, {"name": "b"}, 1),
    (sights.sides, {"chart": CHART, "point": Point(1, 1)}, 2),
    (sights.about, {"chart": FIVE, "point": Point(1, 1), "among": ("a", "c", "e")}, 2),
    (cells.cells, {"chart": CHART}, 1),
    (cells.place_of, {"chart": CHART, "sides": (-1, 1, -1)}, 2),
    (cells.shows_place_of, {"chart": CHART, "sides": (-1, 1, -1), "value": NEVER}, 3),
    (cells.next_to, {"chart": CHART, "cell": (1, -1, 1)}, 2),
    (cells.pieces, {"chart": CHART, "some": cells.cells(CHART)[::3]}, 2),
    (lands.Land, {"corners": LAND.corners}, 1),
    (seeing.rounds, {"chart": FIVE, "land": LAND, "among": ("a", "b", "d")}, 1),
    (seeing.seen_from, {"chart": CHART, "asked": ACB, "land": LAND, "among": None}, 2),
    (seeing.shows_seen_from, {"chart": CHART, "asked": ACB, "value": ("place", Point(-1, -1)), "land": None, "among": ("a", "b", "c")}, 3),
    (seeing.where, {"chart": CHART, "asked": ACB, "among": ("a", "b", "c")}, 2),
    (ways.crossed, {"chart": CHART, "start": Point(1, 1), "goal": Point(-1, -2)}, 3),
    (ways.seen_on, {"chart": CHART, "start": Point(1, 1), "goal": Point(-1, -2)}, 3),
    (ways.fewest, {"chart": CHART, "start": Point(1, 1), "goal": Point(-1, -2)}, 3),
    (ways.shows_fewest, {"chart": CHART, "start": Point(1, 1), "goal": Point(-1, -2), "value": ways.fewest(CHART, Point(1, 1), Point(-1, -2))}, 4),
    (logs.began, {"chart": CHART, "log": (ABC, CORNER, ACB)}, 2),
    (logs.now, {"chart": CHART, "log": (ABC, CORNER, ACB)}, 2),
    (logs.coming, {"chart": CHART, "log": (ABC, CORNER, ACB)}, 2),
    (logs.known, {"chart": CHART, "log": (ABC, CORNER, ACB)}, 2),
    (scripts.Script, {"text": SCRIPT.text}, 1),
    (scripts.walked, {"chart": CHART, "script": SCRIPT, "point": Point(1, 1)}, 3),
    (scripts.ends, {"chart": CHART, "script": SCRIPT, "land": LAND}, 3),
    (scripts.failing, {"chart": CHART, "script": SCRIPT, "land": LAND}, 3),
    (scripts.leads, {"chart": CHART, "script": SCRIPT, "land": LAND}, 3),
    (scripts.shows_leads, {"chart": CHART, "script": SCRIPT, "land": LAND, "value": ("not", Point(5, 1))}, 4),
    (lap().led, {"share": -1, "many": 2}, 2),
    (lap().starts, {"many": 2}, 1),
    (looks.mixed, {"chart": FIVE, "ask": ("a", "b"), "land": WIDE, "among": ("a", "b", "c")}, 2),
    (looks.shows_mixed, {"chart": CHART, "ask": ("a", "b"), "value": None, "land": LAND, "among": None}, 3),
    (looks.fewest_marks, {"chart": FIVE, "ask": ("b", "a"), "land": WIDE}, 2),
    (comparing.apart, {"one": CHART, "other": charts.Chart("mark a 0 0\nmark b 0 4\nmark c 4 4"), "land": LAND}, 2),
    (choosing.cheapest, {"chart": CHART, "offers": (("mark d 12 -1", 2), ("mark e 9 9", 1)), "asks": (("a", "b"),), "land": WIDE}, 3),
    (walkers.Walker, {"chart": CHART, "point": Point(1, 1)}, 2),
    (journals.journal, {"walker": walker()}, 1),
    (journals.read_journal, {"text": JOURNAL}, 1),
]
# The same of methods that change their walker: each call has a walker of its own.
CHANGES = [
    (lambda: walker().go, {"point": Point(-1, -2)}, 1),
    (lambda: walker().step, {"line": "from c until a c"}, 1),
    (lambda: walker().step, {"line": "towards b between a c"}, 1),
    (lambda: walker().tried, {"look": lambda held: (held.go(Point(-1, -2)), held.point), "keep": True}, 1),
    (lambda: desk.Desk(JOURNAL).say, {"line": "go 9 9"}, 1),
    (lambda: desk.Desk(JOURNAL).say, {"line": "known a b"}, 1),
]


def told(call, *arguments, **named):
    """What a call returns, or the error that it raises, with its value."""
    try:
        return "told", call(*arguments, **named)
    except errors.AboutError as error:
        return "refused", type(error), error.value


class Calls(unittest.TestCase):

    def all_ways(self, make, named, many):
        """All ways to pass these arguments: by position as far as may be, by names, in another sequence."""
        first = told(make(), *list(named.values())[:many], **dict(list(named.items())[many:]))
        for split in range(many + 1):
            rest = list(named.items())[split:]
            for row in (rest, rest[::-1], rest[1:] + rest[:1]):
                again = told(make(), *list(named.values())[:split], **dict(row))
                self.assertTrue(is_same(again, first), (make(), named, again, first))

    def test_by_position_or_by_names(self):
        for call, named, many in CALLS:
            self.all_ways(lambda: call, named, many)
        for make, named, many in CHANGES:
            self.all_ways(make, named, many)

    def test_those_behind_a_star_are_passed_by_name(self):
        for call, named, many in [*CALLS, *[(make(), named, many) for make, named, many in CHANGES]]:
            if many < len(named):
                with self.assertRaises(TypeError):
                    call(*named.values())
            with self.assertRaises(TypeError):
                call(*named.values(), None, None, None)

    def test_creation_of_desks_and_laps(self):
        self.assertEqual(desk.Desk(text=JOURNAL).say(line="place"), "4/3 0")
        one, other = lap(), laps.Lap(script=scripts.Script("towards d between a c\ntowards e between a b"), chart=FIVE)
        self.assertEqual((one.pair, one.table, one.turns, one.fixed), (other.pair, other.table, other.turns, other.fixed))

    def test_equal_calls_return_equal_results(self):
        for call, named, _ in CALLS:
            self.assertTrue(is_same(told(call, **named), told(call, **named)))

    def test_arguments_are_not_changed(self):
        for call, named, _ in CALLS:
            before = {name: repr_of(value) for name, value in named.items()}
            told(call, **named)
            self.assertEqual({name: repr_of(value) for name, value in named.items()}, before)

    def test_sequences_are_tuples(self):
        def no_lists(value):
            if type(value) is tuple:
                for part in value:
                    no_lists(part)
            self.assertNotIsInstance(value, (list, dict, set, float))

        for call, named, _ in CALLS:
            no_lists(told(call, **named))
        for make, named, _ in CHANGES:
            no_lists(told(make(), **named))

    def test_what_returns_none(self):
        held = walker()
        with held.trial():
            self.assertIsNone(held.keep())
        self.assertIsNone(held.undo())
        self.assertIsNone(held.redo())


def repr_of(value):
    """What an argument tells of itself."""
    if isinstance(value, (charts.Chart, scripts.Script)):
        return value.text
    if isinstance(value, walkers.Walker):
        return journals.journal(value)
    if isinstance(value, Point):
        return value.text
    return value.corners if isinstance(value, lands.Land) else repr(value)


if __name__ == "__main__":
    unittest.main()
