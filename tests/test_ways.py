"""Point 11, and what points 2 and 3 say of it."""

import itertools
import random
import unittest
from fractions import Fraction

from seenabout.cells import cells
from seenabout.errors import AtMark, BadPoint, OnLine, OverMark
from seenabout.points import Point
from seenabout.ratios import Ratio
from seenabout.sights import about, sides
from seenabout.ways import crossed, fewest, seen_on, shows_fewest
from tests import plain
from tests.wrong import Case, is_same, nested, shapes_of, values_of_all_classes

ABC, ACB = (("a",), ("b",), ("c",)), (("a",), ("c",), ("b",))
TRIANGLE = plain.chart_of(plain.TRIANGLE)
START, GOAL = Point(1, 1), Point(-1, -2)
CALLS = [crossed, seen_on, fewest, lambda chart, start, goal: shows_fewest(chart, start, goal, None)]
WAYS = CALLS[:2]


def ends_of_ways(marks, many, seed):
    """Places to begin and to end with: in cells of all kinds, and anywhere, so that ways go along and through much."""
    told, some = random.Random(seed), plain.places_everywhere(marks)
    near = [(Fraction(x, 2), Fraction(y, 2)) for x, y in itertools.product(range(-6, 16), range(-5, 15))]
    for _ in range(many):
        ends = [told.choice(told.choice([some, near])) for _ in range(2)]
        if ends[0] != ends[1] and not any(at in marks.values() for at in ends):
            yield ends


def ways_of(marks, many, seed=1):
    """Those of them that go over no mark."""
    return [ends for ends in ends_of_ways(marks, many, seed) if not plain.marks_on_way(marks, *ends)]


def as_told(some):
    return tuple((plain.ratio(moment), numbers) for moment, numbers in some)


class Crossed(Case):

    def test_triangle(self):
        self.assertTrue(is_same(crossed(TRIANGLE, START, GOAL), ((Ratio(1, 3), (0,)), (Ratio(1, 2), (1,)))))
        self.assertEqual(crossed(goal=GOAL, start=START, chart=TRIANGLE), crossed(TRIANGLE, START, GOAL))
        self.assertTrue(is_same(crossed(TRIANGLE, Point(1, 1), Point(1, 2)), ()))
        self.assertTrue(is_same(crossed(TRIANGLE, Point(5, 5), Point(9, -1)), ((Ratio(5, 6), (0,)),)))

    def test_beginning_and_ending_on_lines(self):
        self.assertEqual(crossed(TRIANGLE, Point(2, 0), Point(0, 2)), ((Ratio(0), (0,)), (Ratio(1), (1,))))
        self.assertEqual(crossed(TRIANGLE, Point(2, 0), Point(2, -1)), ((Ratio(0), (0,)),))
        self.assertEqual(crossed(TRIANGLE, Point(2, -1), Point(2, 0)), ((Ratio(1), (0,)),))
        self.assertEqual(crossed(TRIANGLE, Point(2, -1), Point(2, Ratio(-1, 999999999999))), ())
        self.assertEqual(crossed(TRIANGLE, Point(1, 3), Point(0, 3)), ((Ratio(0), (2,)), (Ratio(1), (1,))))

    def test_along_lines(self):
        self.assertEqual(crossed(TRIANGLE, Point(1, 0), Point(3, 0)), ())
        self.assertEqual(crossed(TRIANGLE, Point(5, 0), Point(9, 0)), ())
        self.assertEqual(crossed(TRIANGLE, Point(3, 1), Point(1, 3)), ())
        square = plain.chart_of(plain.SQUARE)
        # Along the line of a and c (1), over the crossing with that of b and d (4).
        self.assertEqual(crossed(square, Point(1, 1), Point(3, 3)), ((Ratio(1, 2), (4,)),))
        self.assertEqual(crossed(square, Point(1, 1), Point(2, 2)), ((Ratio(1), (4,)),))
        self.assertEqual(crossed(square, Point(2, 2), Point(1, 1)), ((Ratio(0), (4,)),))
        # Side by side with the line of a and b, and over that of c and d on its whole length.
        self.assertEqual(crossed(square, Point(1, 2), Point(3, 2)), ((Ratio(1, 2), (1, 4)),))

    def test_through_crossings(self):
        hexagon = plain.chart_of(plain.HEXAGON)
        numbers = tuple(hexagon.pairs.index(pair) for pair in [("a", "d"), ("b", "e"), ("c", "f")])
        self.assertIn((Ratio(1, 2), numbers), crossed(hexagon, Point(-1, Ratio(-1, 9)), Point(1, Ratio(1, 9))))
        self.assertIn((Ratio(1, 4), numbers), crossed(hexagon, Point(-1, 1), Point(3, -3)))

    def test_everywhere(self):
        for marks in plain.SMALL + plain.MIDDLE + plain.LARGE:
            chart = plain.chart_of(marks)
            for start, goal in ways_of(marks, 60):
                told = crossed(chart, plain.point(start), plain.point(goal))
                self.assertTrue(is_same(told, as_told(plain.crossed(marks, start, goal))), (marks, start, goal))

    def test_the_way_back(self):
        for marks in [plain.SQUARE, plain.FIVE, plain.SEVEN]:
            chart = plain.chart_of(marks)
            for ends in ways_of(marks, 40, 2):
                start, goal = [plain.point(at) for at in ends]
                there, back = crossed(chart, start, goal), crossed(chart, goal, start)
                self.assertEqual(back, tuple((1 - moment, numbers) for moment, numbers in there[::-1]))
                self.assertEqual(seen_on(chart, goal, start), seen_on(chart, start, goal)[::-1])

    def test_one_is_on_these_lines_at_these_moments(self):
        for marks in [plain.HOUSE, plain.SEVEN_FLAT]:
            chart = plain.chart_of(marks)
            for ends in ways_of(marks, 30, 3):
                start, goal = [plain.point(at) for at in ends]
                for moment, numbers in crossed(chart, start, goal):
                    here = start.towards(goal, moment)
                    if here.text not in [chart[name].text for name in chart.names]:
                        self.assertEqual([sides(chart, here)[number] for number in numbers], [0] * len(numbers))


class SeenOn(Case):

    def test_triangle(self):
        self.assertTrue(is_same(seen_on(TRIANGLE, START, GOAL), (ABC, (("a", "c"), ("b",)), ACB)))
        self.assertEqual(seen_on(goal=GOAL, start=START, chart=TRIANGLE), seen_on(TRIANGLE, START, GOAL))
        # Between a and b nothing is exchanged.
        self.assertTrue(is_same(seen_on(TRIANGLE, Point(2, 1), Point(2, -1)), (ABC,)))
        self.assertEqual(seen_on(TRIANGLE, Point(2, 0), Point(2, -1)), (ABC,))

    def test_beyond(self):
        group = (("a", "b"), ("c",))
        self.assertEqual(seen_on(TRIANGLE, Point(6, 1), Point(6, -1)), (ABC, group, ACB))
        self.assertEqual(seen_on(TRIANGLE, Point(6, 0), Point(6, -1)), (group, ACB))
        self.assertEqual(seen_on(TRIANGLE, Point(6, 1), Point(6, 0)), (ABC, group))
        self.assertEqual(seen_on(TRIANGLE, Point(6, 0), Point(9, 0)), (group,))
        self.assertEqual(seen_on(TRIANGLE, Point(5, -1), Point(6, 0)), ((("a",), ("b", "c")), ACB, group))

    def test_along_a_line_through_crossings(self):
        square = plain.chart_of(plain.SQUARE)
        self.assertEqual(seen_on(square, Point(1, 1), Point(3, 3)), ((("a",), ("b",), ("c",), ("d",)),))
        self.assertEqual(seen_on(square, Point(5, 5), Point(9, 9)), ((("a", "c"), ("b",), ("d",)),))

    def test_everywhere(self):
        for marks in plain.SMALL + plain.MIDDLE + plain.LARGE:
            chart = plain.chart_of(marks)
            for start, goal in ways_of(marks, 40, 4):
                told = seen_on(chart, plain.point(start), plain.point(goal))
                self.assertTrue(is_same(told, plain.seen_on(marks, start, goal)), (marks, start, goal))

    def test_none_is_like_the_one_ahead(self):
        chart = plain.chart_of(plain.SEVEN)
        for ends in ways_of(plain.SEVEN, 40, 5):
            start, goal = [plain.point(at) for at in ends]
            told = seen_on(chart, start, goal)
            self.assertTrue(all(one != other for one, other in zip(told, told[1:])))
            self.assertEqual((told[0], told[-1]), (about(chart, start), about(chart, goal)))


class Fewest(Case):

    def right(self, chart, marks, start, goal):
        told = fewest(chart, plain.point(start), plain.point(goal))
        self.assertTrue(plain.is_fewest(marks, start, goal, told), (marks, start, goal, told))
        self.assertIs(shows_fewest(chart, plain.point(start), plain.point(goal), told), True)
        return told

    def test_triangle(self):
        number, way, levels = self.right(TRIANGLE, plain.TRIANGLE, (1, 1), (-1, -2))
        self.assertEqual((number, way[0], way[-1]), (1, START, GOAL))
        self.assertEqual(levels, (1, 0, 1, 0, 0, 1, 0))
        self.assertEqual(fewest(goal=GOAL, start=START, chart=TRIANGLE)[0], 1)

    def test_to_itself(self):
        for chart, at in [(TRIANGLE, Point(1, 1)), (plain.chart_of(plain.SEVEN), Point(0, 0))]:
            told = fewest(chart, at, Point(at.x, at.y))
            self.assertTrue(is_same(told[:2], (0, (at,))))
            self.assertIs(shows_fewest(chart, at, at, told), True)
            self.assertIs(shows_fewest(chart, at, at, (0, (at, at), told[2])), False)
            self.assertIs(shows_fewest(chart, at, at, (0, (at, at + Point(Ratio(1, 9), 0), at), told[2])), False)
            self.assertIs(shows_fewest(chart, at, at, (0, (), told[2])), False)

    def test_within_one_cell(self):
        number, way, _ = self.right(TRIANGLE, plain.TRIANGLE, (1, 1), (2, 1))
        self.assertEqual(number, 0)
        self.assertTrue(is_same((way[0], way[-1]), (Point(1, 1), Point(2, 1))))

    def test_over_a_line_between_its_marks_and_beyond(self):
        self.assertEqual(self.right(TRIANGLE, plain.TRIANGLE, (2, 1), (2, -1))[0], 0)
        self.assertEqual(self.right(TRIANGLE, plain.TRIANGLE, (6, 1), (6, -1))[0], 1)
        self.assertEqual(self.right(TRIANGLE, plain.TRIANGLE, (-1, -1), (9, -1))[0], 2)

    def test_around_corners(self):
        # Straight on it is two lines beyond their marks, around through the triangle none.
        self.assertEqual(plain.exchanges_on(plain.TRIANGLE, (5, 5), (3, -1)), 0)
        self.assertEqual(plain.exchanges_on(plain.TRIANGLE, (6, 1), (5, Fraction(-3, 2))), 2)
        self.assertEqual(self.right(TRIANGLE, plain.TRIANGLE, (6, 1), (5, Fraction(-3, 2)))[0], 0)

    def test_the_fewest_everywhere(self):
        for marks in plain.SMALL + plain.MIDDLE:
            chart = plain.chart_of(marks)
            inner = [at for at in plain.places_everywhere(marks) if 0 not in plain.sides(marks, at)]
            for start in inner[::17]:
                wanted = plain.fewest(marks, start)
                for goal in inner[::5]:
                    self.assertEqual(self.right(chart, marks, start, goal)[0], wanted[plain.sides(marks, goal)])

    def test_seven_marks(self):
        for marks in plain.LARGE:
            chart = plain.chart_of(marks)
            inner = [at for at in plain.places_everywhere(marks) if 0 not in plain.sides(marks, at)]
            for start in inner[::300]:
                wanted = plain.fewest(marks, start)
                for goal in inner[::90]:
                    self.assertEqual(self.right(chart, marks, start, goal)[0], wanted[plain.sides(marks, goal)])

    def test_levels_stand_for_the_cells_without_side_0(self):
        for marks in [plain.SQUARE, plain.FIVE]:
            chart = plain.chart_of(marks)
            levels = fewest(chart, plain.point((Fraction(1, 7), Fraction(1, 9))), plain.point((50, 49)))[2]
            self.assertEqual(len(levels), len([cell for cell in cells(chart) if 0 not in cell]))
            self.assertEqual({type(level) for level in levels}, {int})


class Shown(Case):

    def judged(self, chart, marks, start, goal, values):
        for value in values:
            wanted = plain.is_fewest(marks, start, goal, value)
            self.assertIs(shows_fewest(chart, plain.point(start), plain.point(goal), value), wanted, value)

    def test_by_hand(self):
        told = (1, (START, GOAL), (1, 0, 1, 0, 0, 1, 0))
        self.assertIs(shows_fewest(TRIANGLE, START, GOAL, told), True)
        self.assertIs(shows_fewest(value=told, goal=GOAL, start=START, chart=TRIANGLE), True)
        self.assertIs(shows_fewest(TRIANGLE, START, GOAL, (1, (START, GOAL), (1, 0, 1, 0, 0, 0, 0))), True)
        self.assertIs(shows_fewest(TRIANGLE, START, GOAL, (1, (START, GOAL), (0, 0, 1, 0, 0, -1, 0))), True)
        self.assertIs(shows_fewest(TRIANGLE, START, GOAL, (1, (START, GOAL), (0, 0, 2, 0, 0, 0, 0))), False)
        self.judged(TRIANGLE, plain.TRIANGLE, (1, 1), (-1, -2), shapes_of(told))

    def test_all_levels(self):
        values = [(1, (START, GOAL), levels) for levels in itertools.product((-1, 0, 1), repeat=7)]
        self.judged(TRIANGLE, plain.TRIANGLE, (1, 1), (-1, -2), values)
        self.assertGreater(len([value for value in values if plain.is_fewest(plain.TRIANGLE, (1, 1), (-1, -2), value)]), 1)

    def test_ways(self):
        levels = (1, 0, 1, 0, 0, 1, 0)
        far, stops = Point(-1, Ratio(-1, 2)), [Point(2, 1), Point(2, -1), Point(6, -5), Point(-1, -3), Point(3, 3), Point(1, 2)]
        for inner in [(), (far,), *itertools.permutations(stops, 1), *itertools.permutations(stops, 2), *itertools.permutations(stops, 3)]:
            for number in (0, 1, 2, 3):
                self.judged(TRIANGLE, plain.TRIANGLE, (1, 1), (-1, -2), [(number, (START, *inner, GOAL), levels)])

    def test_ways_over_marks_and_on_lines(self):
        levels = (1, 0, 1, 0, 0, 1, 0)
        for inner, wanted in [
            ((), True), ((Point(2, 1),), True), ((Point(2, 0),), False), ((Point(0, 0),), False), ((Point(-1, 3), Point(-1, 2)), True), ((START,), False),
            ((GOAL,), False), ((Point(-3, -3),), False), ((Point(2, 1), Point(2, 1)), False), ((Point(2, 0), Point(2, -1)), False),
            ((Point(3, 1),), False), ((Point(2, 1), Point(6, -1), Point(5, -3)), False), ((Point(2, -1), Point(-1, Ratio(-9, 2))), True),
        ]:
            value = (1, (START, *inner, GOAL), levels)
            self.assertIs(shows_fewest(TRIANGLE, START, GOAL, value), wanted, inner)
            self.assertIs(plain.is_fewest(plain.TRIANGLE, (1, 1), (-1, -2), value), wanted, inner)
        # Straight over a mark there would be no exchange at all.
        start, goal = Point(3, 2), Point(5, -2)
        self.assertEqual(plain.marks_on_way(plain.TRIANGLE, (3, 2), (5, -2)), ["b"])
        right = fewest(TRIANGLE, start, goal)
        self.assertEqual(right[0], 0)
        self.assertIs(shows_fewest(TRIANGLE, start, goal, (0, (start, goal), right[2])), False)

    def test_more_exchanges_than_needed(self):
        start, goal = Point(6, 1), Point(5, Ratio(-3, 2))
        self.assertEqual(plain.exchanges_on(plain.TRIANGLE, (6, 1), (5, Fraction(-3, 2))), 2)
        levels = fewest(TRIANGLE, start, goal)[2]
        for number in (0, 1, 2):
            self.assertIs(shows_fewest(TRIANGLE, start, goal, (number, (start, goal), levels)), False)

    def test_one_part_otherwise(self):
        for marks, start, goal in [(plain.SQUARE, (1, 2), (9, -3)), (plain.SLANT, (0, 0), (30, 1)), (plain.INNER, (3, 2), (-9, 40)), (plain.TRIANGLE, (1, 1), (1, 1))]:
            chart = plain.chart_of(marks)
            told = fewest(chart, plain.point(start), plain.point(goal))
            self.judged(chart, marks, start, goal, [told, *itertools.islice(shapes_of(told), 0, None, 2)])

    def test_values_of_any_kind(self):
        told = fewest(TRIANGLE, START, GOAL)
        values = values_of_all_classes() + [
            (), told[:2], told + (0,), [*told], (None, *told[1:]), (True, *told[1:]), (Ratio(1), *told[1:]), (1, [*told[1]], told[2]), (1, told[1], [*told[2]]),
            (1, (), told[2]), (1, told[1], ()), (1, (START, None, GOAL), told[2]), (1, "1 1", told[2]), (1, ((1, 1), (-1, -2)), told[2]), (1, None, None),
            (1, told[1], nested(29)), (1, nested(29), told[2]), (nested(29), *told[1:]), nested(30), (1, told[1], tuple(bool(level) for level in told[2])),
            (1, told[1], tuple(Ratio(level) for level in told[2])), (1, told[1][::-1], told[2]), (1, told[1], told[2] + (0,)),
        ]
        self.judged(TRIANGLE, plain.TRIANGLE, (1, 1), (-1, -2), values)


class Refused(Case):

    def test_bad_point(self):
        for value in values_of_all_classes() + [nested(30), (1, 1), "1 1"]:
            if not isinstance(value, Point):
                for call in CALLS:
                    self.refused(BadPoint, value, call, TRIANGLE, value, Point(1, 1))
                    self.refused(BadPoint, value, call, TRIANGLE, Point(1, 1), value)
                    self.refused(BadPoint, value, call, TRIANGLE, Point(0, 0), value)
                    self.refused(BadPoint, value, call, TRIANGLE, value, None)
                    self.refused(BadPoint, value, call, TRIANGLE, goal=7, start=value)

    def test_a_goal_that_is_the_start(self):
        for x, y in [(1, 1), (2, 0), (0, 0), (4, 0)]:
            same = Point(Ratio(2 * x, 2), y)
            for call in WAYS:
                self.refused(BadPoint, same, call, TRIANGLE, Point(x, y), same)

    def at_mark(self, name, call, *args):
        with self.assertRaises(AtMark) as caught:
            call(*args)
        self.assertTrue(is_same(caught.exception.value, name))

    def test_at_mark(self):
        for call in CALLS:
            for name, (x, y) in plain.TRIANGLE.items():
                self.at_mark(name, call, TRIANGLE, Point(x, y), Point(1, 1))
                self.at_mark(name, call, TRIANGLE, Point(1, 1), Point(x, y))
                self.at_mark(name, call, TRIANGLE, Point(2, 0), Point(x, y))
            self.at_mark("a", call, TRIANGLE, Point(0, 0), Point(4, 0))
            self.at_mark("c", call, TRIANGLE, Point(0, 4), Point(0, 0))
            self.at_mark("b", call, TRIANGLE, Point(-4, 0), Point(4, 0))
        for call in CALLS[2:]:
            self.at_mark("c", call, TRIANGLE, Point(0, 4), Point(0, 4))

    def over(self, name, chart, start, goal):
        for call in WAYS:
            with self.assertRaises(OverMark) as caught:
                call(chart, start, goal)
            self.assertTrue(is_same(caught.exception.value, name))

    def test_over_one_mark(self):
        self.over("a", TRIANGLE, Point(-1, -1), Point(1, 1))
        self.over("a", TRIANGLE, Point(1, 1), Point(-1, -1))
        self.over("c", TRIANGLE, Point(Ratio(-1, 3), Ratio(11, 3)), Point(9, 13))
        self.over("b", TRIANGLE, Point(1, 0), Point(5, 0))
        self.assertEqual(crossed(TRIANGLE, Point(1, 1), Point(Ratio(1, 999999999999), Ratio(1, 999999999999))), ())
        self.assertEqual(seen_on(TRIANGLE, Point(-1, -1), Point(-5, -5)), (ACB,))

    def test_over_two_marks(self):
        self.over("a", TRIANGLE, Point(-1, 0), Point(9, 0))
        self.over("b", TRIANGLE, Point(9, 0), Point(-1, 0))
        self.over("c", TRIANGLE, Point(0, 9), Point(0, -3))
        for marks in [plain.SQUARE, plain.FIVE, plain.SEVEN]:
            chart = plain.chart_of(marks)
            for one, other in itertools.permutations(marks, 2):
                start, goal = [plain.point(plain.between(marks[one], marks[other], share)) for share in (Fraction(-1, 3), Fraction(9, 7))]
                self.over(one, chart, start, goal)
                self.over(other, chart, goal, start)

    def test_over_marks_anywhere(self):
        for marks in plain.SMALL + plain.MIDDLE:
            chart = plain.chart_of(marks)
            for start, goal in ends_of_ways(marks, 300, 6):
                on = plain.marks_on_way(marks, start, goal)
                if on:
                    self.over(on[0], chart, plain.point(start), plain.point(goal))

    def test_on_line(self):
        for call in CALLS[2:]:
            for x, y in [(2, 0), (9, 0), (-3, 0), (0, 1), (2, 2), (5, -1), (Ratio(1, 3), Ratio(11, 3))]:
                at = Point(x, y)
                self.refused(OnLine, at, call, TRIANGLE, at, Point(1, 1))
                self.refused(OnLine, at, call, TRIANGLE, Point(1, 1), at)
                self.refused(OnLine, at, call, TRIANGLE, at, Point(0, 2))
                self.refused(OnLine, at, call, TRIANGLE, at, at)
            square = plain.chart_of(plain.SQUARE)
            self.refused(OnLine, middle := Point(2, 2), call, square, Point(1, 2), middle)

    def test_over_mark_is_not_asked_for_the_fewest(self):
        for start, goal in [((1, 1), (-1, -1)), ((3, 2), (5, -2))]:
            self.assertTrue(plain.marks_on_way(plain.TRIANGLE, start, goal))
            self.assertTrue(plain.is_fewest(plain.TRIANGLE, start, goal, fewest(TRIANGLE, plain.point(start), plain.point(goal))))

    def test_which_error_comes_first(self):
        for call in CALLS:
            self.refused(BadPoint, None, call, TRIANGLE, None, Point(0, 0))
            self.refused(BadPoint, 7, call, TRIANGLE, Point(0, 0), 7)
            self.at_mark("a", call, TRIANGLE, Point(0, 0), Point(4, 0))
            self.at_mark("a", call, TRIANGLE, Point(-4, 0), Point(0, 0))
        for call in WAYS:
            self.at_mark("b", call, TRIANGLE, Point(-4, 0), Point(4, 0))
        for call in CALLS[2:]:
            self.at_mark("b", call, TRIANGLE, Point(9, 0), Point(4, 0))

    def test_nothing_changes(self):
        start, goal = Point(1, 1), Point(-1, -2)
        first = [call(TRIANGLE, start, goal) for call in CALLS]
        self.assertEqual([call(TRIANGLE, start, goal) for call in CALLS], first)
        self.assertEqual((start, goal, TRIANGLE.text), (START, GOAL, plain.text_of(plain.TRIANGLE)))


if __name__ == "__main__":
    unittest.main()
