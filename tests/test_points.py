"""Point 5, and what point 2 says of it."""

import operator
import unittest

from seenabout.errors import BadNumber, BadPoint, BadText, Off
from seenabout.points import Line, Point
from seenabout.ratios import Ratio
from tests.wrong import Case, is_number, nested, values_of_every_kind

SIGNS = [operator.add, operator.sub, operator.mul, operator.and_, operator.or_,
         operator.lt, operator.le, operator.gt, operator.ge]
HALF = Ratio(1, 2)
PLACES = [Point(x, y) for x in (-2, 0, HALF, 3) for y in (-1, 0, Ratio(2, 3), 3)]
SHARES = [-3, -1, Ratio(-1, 2), 0, Ratio(0), Ratio(1, 3), HALF, 1, Ratio(1), Ratio(7, 5), 2, 40]


def no_points():
    return [value for value in values_of_every_kind() if not isinstance(value, Point)]


class InPlane(Case):

    def at(self, point, x, y):
        """The Point with the coordinates of these texts."""
        self.assertIs(type(point), Point)
        self.assertIs(type(point.x), Ratio)
        self.assertIs(type(point.y), Ratio)
        self.assertEqual((point.x.text, point.y.text), (x, y))


class Points(InPlane):

    def test_integers_and_ratios(self):
        self.at(Point(3, -4), "3", "-4")
        self.at(Point(Ratio(6, 4), 0), "3/2", "0")
        self.at(Point(0, Ratio(-1, 2)), "0", "-1/2")
        self.at(Point(Ratio(7), Ratio(1, 3)), "7", "1/3")
        self.at(Point(y=2, x=1), "1", "2")

    def test_no_numbers(self):
        for value in values_of_every_kind():
            if not is_number(value):
                self.pair_refused(BadPoint, (value, 5), Point, value, 5)
                self.pair_refused(BadPoint, (HALF, value), Point, HALF, value)
                self.pair_refused(BadPoint, (value, value), Point, value, value)
                self.pair_refused(BadPoint, (1, value), Point, y=value, x=1)
                self.pair_refused(BadPoint, (value, 1), Point, y=1, x=value)

    def test_text(self):
        for point, text in [(Point(0, 0), "0 0"), (Point(Ratio(4, 3), 0), "4/3 0"), (Point(-1, Ratio(-6, 4)), "-1 -3/2")]:
            self.assertEqual(point.text, text)

    def test_of(self):
        for place in PLACES:
            self.assertEqual(Point.of(place.text), place)
        self.at(Point.of("-1 1/2"), "-1", "1/2")
        self.at(Point.of(text="12 -3/4"), "12", "-3/4")

    def test_of_no_text_of_a_point(self):
        for text in [
            "", " ", "1", "1 ", " 1", "1  2", " 1 2", "1 2 ", "1 2 3", "1,2", "1, 2", "(1, 2)", "1\n2", "1\t2", "1 2\n",
            "01 2", "1 02", "+1 2", "1 +2", "-0 1", "1 -0", "2/4 1", "1 2/4", "1/1 1", "1 1/1", "1/0 1", "1 1/0",
            "1/-2 1", "1 3/", "/3 1", "a 1", "1 a", "a b", "1.0 2", "x y", "1/2", "at 1 2", "1 2/3/4", "-- 1", "1 -",
        ]:
            self.refused(BadText, text, Point.of, text)

    def test_of_no_string(self):
        for value in values_of_every_kind():
            if value != "1 2":
                self.refused(BadText, value, Point.of, value)
                self.refused(BadText, value, Point.of, text=value)

    def test_of_very_many_figures(self):
        far = Point(0, 0).towards(Point(Ratio(1, 999999999989), 999999999999), 999999999999)
        for _ in range(420):
            far = far.towards(Point(0, 1), 999999999989)
        self.assertGreater(len(far.text), 5000)
        self.assertEqual(Point.of(far.text), far)

    def test_plus_and_minus(self):
        self.at(Point(1, 2) + Point(10, Ratio(1, 2)), "11", "5/2")
        self.at(Point(1, 2) - Point(10, Ratio(1, 2)), "-9", "3/2")
        for one in PLACES:
            for other in PLACES:
                self.at(one + other, (one.x + other.x).text, (one.y + other.y).text)
                self.at(one - other, (one.x - other.x).text, (one.y - other.y).text)

    def test_no_other_operands(self):
        for value in no_points():
            for sign in SIGNS:
                with self.assertRaises(TypeError):
                    sign(Point(1, 2), value)
                with self.assertRaises(TypeError):
                    sign(value, Point(1, 2))

    def test_no_other_signs(self):
        for sign in SIGNS[2:]:
            with self.assertRaises(TypeError):
                sign(Point(1, 2), Point(3, 4))
        for sign in [operator.neg, abs]:
            with self.assertRaises(TypeError):
                sign(Point(1, 2))

    def test_towards(self):
        start, goal = Point(0, 4), Point(1, 1)
        for share, x, y in [
            (0, "0", "4"), (1, "1", "1"), (2, "2", "-2"), (-1, "-1", "7"), (Ratio(1, 3), "1/3", "3"),
            (Ratio(-1, 2), "-1/2", "11/2"), (Ratio(3, 2), "3/2", "-1/2"), (Ratio(0), "0", "4"), (Ratio(1), "1", "1"),
        ]:
            self.at(start.towards(goal, share), x, y)
        self.at(start.towards(share=Ratio(1, 2), other=goal), "1/2", "5/2")
        self.at(start.towards(start, 5), "0", "4")

    def test_towards_everywhere(self):
        for one in PLACES:
            for other in PLACES:
                self.assertEqual(one.towards(other, 0), one)
                self.assertEqual(one.towards(other, 1), other)
                self.assertEqual(one.towards(other, 2) - other, other - one)
                self.assertEqual(one.towards(other, HALF), other.towards(one, HALF))

    def test_towards_no_point(self):
        for value in no_points():
            self.refused(BadPoint, value, Point(1, 2).towards, value, 1)
            self.refused(BadPoint, value, Point(1, 2).towards, value, None)
            self.refused(BadPoint, value, Point(1, 2).towards, share="a", other=value)

    def test_towards_by_no_number(self):
        for value in values_of_every_kind():
            if not is_number(value):
                self.refused(BadNumber, value, Point(1, 2).towards, Point(3, 4), value)
                self.refused(BadNumber, value, Point(1, 2).towards, share=value, other=Point(1, 2))

    def test_equality(self):
        self.assertIs(Point(1, 2) == Point(Ratio(2, 2), Ratio(-4, -2)), True)
        self.assertIs(Point(1, 2) != Point(1, 2), False)
        for other in [Point(1, 3), Point(0, 2), Point(2, 1), Point(-1, -2)]:
            self.assertIs(Point(1, 2) == other, False)
            self.assertIs(Point(1, 2) != other, True)

    def test_equal_to_nothing_else(self):
        for value in no_points():
            for point in [Point(0, 0), Point(1, 2)]:
                self.assertIs(point == value, False)
                self.assertIs(value == point, False)
        self.assertIs(Point(1, 2) == (1, 2), False)
        self.assertIs(Point(1, 2) == (Ratio(1), Ratio(2)), False)
        self.assertIs(Point(1, 2) == "1 2", False)

    def test_nothing_changes_a_point(self):
        one, other = Point(1, HALF), Point(3, 4)
        for sign in [operator.add, operator.sub, operator.iadd, operator.isub, operator.eq]:
            self.assertIsNot(sign(one, other), one)
            self.at(one, "1", "1/2")
            self.at(other, "3", "4")
        one.towards(other, 5)
        for value in [None, nested(30)]:
            with self.assertRaises(BadPoint):
                one.towards(value, 1)
            with self.assertRaises(BadNumber):
                one.towards(other, value)
        self.at(one, "1", "1/2")
        self.at(other, "3", "4")


class Lines(InPlane):

    def test_one_and_other(self):
        line = Line(Point(1, HALF), Point(3, 4))
        self.at(line.one, "1", "1/2")
        self.at(line.other, "3", "4")
        line = Line(other=Point(1, 2), one=Point(3, 4))
        self.assertEqual((line.one, line.other), (Point(3, 4), Point(1, 2)))

    def test_unlike_in_one_coordinate_is_enough(self):
        self.assertEqual(Line(Point(1, 2), Point(1, 3)).other, Point(1, 3))
        self.assertEqual(Line(Point(1, 2), Point(0, 2)).other, Point(0, 2))

    def test_no_points(self):
        for value in no_points():
            self.refused(BadPoint, value, Line, value, Point(1, 2))
            self.refused(BadPoint, value, Line, Point(1, 2), value)
            self.refused(BadPoint, value, Line, other=Point(1, 2), one=value)
            self.refused(BadPoint, value, Line, value, None)
            self.refused(BadPoint, value, Line, value, value)
            self.refused(BadPoint, value, Line, other="a", one=value)

    def test_the_same_point(self):
        point, same = Point(1, HALF), Point(Ratio(3, 3), Ratio(2, 4))
        self.refused(BadPoint, same, Line, point, same)
        self.refused(BadPoint, point, Line, same, point)
        self.refused(BadPoint, point, Line, point, point)

    def test_height(self):
        across, up, slant = Line(Point(0, 0), Point(4, 0)), Line(Point(1, 1), Point(1, 3)), Line(Point(1, 2), Point(4, 6))
        for line, x, y, height in [
            (across, 1, 1, 4), (across, -9, 1, 4), (across, 2, -3, -12), (across, 7, 0, 0),
            (up, 0, 0, 2), (up, 3, 8, -4), (up, 1, -5, 0),
            (slant, 1, 5, 9), (slant, 4, 2, -12), (slant, 7, 10, 0), (slant, 1, 2, 0), (slant, 4, 6, 0), (slant, 0, 0, -2),
        ]:
            self.told(line.height(Point(x, y)), height)
        self.told(slant.height(Point(Ratio(1, 2), Ratio(1, 3))), -3)
        self.told(Line(Point(0, 0), Point(HALF, 0)).height(point=Point(0, Ratio(1, 3))), 1, 6)

    def test_height_everywhere(self):
        for one in PLACES:
            for other in PLACES:
                if one != other:
                    line, turned = Line(one, other), Line(other, one)
                    for place in PLACES:
                        height = line.height(place)
                        self.assertEqual(height, (other.x - one.x) * (place.y - one.y)
                                         - (other.y - one.y) * (place.x - one.x))
                        self.assertEqual(turned.height(place), -height)

    def test_share(self):
        line = Line(Point(1, 2), Point(4, 6))
        for x, y, number, under in [(1, 2, 0, 1), (4, 6, 1, 1), (7, 10, 2, 1), (-2, -2, -1, 1), (Ratio(5, 2), 4, 1, 2)]:
            self.told(line.share(Point(x, y)), number, under)
        self.told(Line(Point(1, 1), Point(1, 3)).share(Point(1, -4)), -5, 2)
        self.told(Line(Point(1, 1), Point(-3, 1)).share(point=Point(0, 1)), 1, 4)

    def test_share_is_the_way_back_from_towards(self):
        for one in PLACES:
            for other in PLACES:
                if one != other:
                    for share in SHARES:
                        told = Line(one, other).share(one.towards(other, share))
                        self.assertEqual(told, share if isinstance(share, Ratio) else Ratio(share))

    def test_share_off_the_line(self):
        for line in [Line(Point(0, 0), Point(4, 0)), Line(Point(1, 1), Point(2, 5)), Line(Point(3, 0), Point(3, -1))]:
            for off in [Point(1, HALF), Point(0, -1), Point(Ratio(7, 2), Ratio(1, 999999999999))]:
                self.refused(Off, off, line.share, off)
                self.refused(Off, off, line.share, point=off)

    def test_height_and_share_of_no_point(self):
        line = Line(Point(0, 0), Point(4, 0))
        for value in no_points():
            self.refused(BadPoint, value, line.height, value)
            self.refused(BadPoint, value, line.height, point=value)
            self.refused(BadPoint, value, line.share, value)
            self.refused(BadPoint, value, line.share, point=value)

    def test_lines_that_meet(self):
        across, up = Line(Point(0, 0), Point(4, 0)), Line(Point(1, 1), Point(1, 3))
        slant = Line(Point(0, 4), Point(1, 1))
        for one, other, x, y in [
            (across, up, "1", "0"), (across, slant, "4/3", "0"), (up, slant, "1", "1"),
            (Line(Point(0, 0), Point(3, 3)), Line(Point(0, 1), Point(HALF, Ratio(1, 3))), "3/7", "3/7"),
            (Line(Point(0, 0), Point(1, 1)), Line(Point(0, 0), Point(5, -3)), "0", "0"),
            (Line(Point(0, 0), Point(1000, 1)), Line(Point(0, 1), Point(999, 2)), "-999000", "-999"),
        ]:
            turned_one, turned_other = Line(one.other, one.one), Line(other.other, other.one)
            for first in [one, turned_one]:
                for second in [other, turned_other]:
                    self.at(first & second, x, y)
                    self.at(second & first, x, y)

    def test_lines_that_meet_everywhere(self):
        lines = [Line(PLACES[k], PLACES[(k * 7 + 3) % 16]) for k in range(16) if k != (k * 7 + 3) % 16]
        for one in lines:
            for other in lines:
                met = one & other
                if met is not None:
                    self.assertEqual((one.height(met), other.height(met)), (Ratio(0), Ratio(0)))
                else:
                    way, turned = one.other - one.one, other.other - other.one
                    self.assertEqual(way.x * turned.y, way.y * turned.x)

    def test_lines_that_have_no_only_point(self):
        line = Line(Point(0, 1), Point(3, 2))
        for other in [
            Line(Point(0, 2), Point(3, 3)), Line(Point(6, 4), Point(0, 2)), Line(Point(0, 0), Point(-9, -3)),
            Line(Point(0, 1), Point(3, 2)), line, Line(Point(3, 2), Point(0, 1)), Line(Point(6, 3), Point(HALF * 3, HALF * 3)),
        ]:
            self.assertIsNone(line & other)
            self.assertIsNone(other & line)
        self.assertIsNone(Line(Point(1, 0), Point(1, 1)) & Line(Point(2, 0), Point(2, -1)))

    def test_no_other_operands(self):
        for value in values_of_every_kind():
            for sign in SIGNS:
                if not (isinstance(value, Line) and sign is operator.and_):
                    with self.assertRaises(TypeError):
                        sign(Line(Point(0, 0), Point(1, 0)), value)
                    with self.assertRaises(TypeError):
                        sign(value, Line(Point(0, 0), Point(1, 0)))

    def test_equality(self):
        line = Line(Point(0, 1), Point(3, 2))
        self.assertIs(line == Line(Point(0, 1), Point(Ratio(6, 2), 2)), True)
        self.assertIs(line != Line(Point(0, 1), Point(3, 2)), False)
        for other in [Line(Point(3, 2), Point(0, 1)), Line(Point(0, 1), Point(6, 3)), Line(Point(-3, 0), Point(3, 2))]:
            self.assertIs(line == other, False)
            self.assertIs(line != other, True)

    def test_equal_to_nothing_else(self):
        line = Line(Point(0, 0), Point(1, 0))
        for value in values_of_every_kind() + [(Point(0, 0), Point(1, 0)), [Point(0, 0), Point(1, 0)]]:
            self.assertIs(line == value, False)
            self.assertIs(value == line, False)

    def test_nothing_changes_a_line(self):
        line, other = Line(Point(0, 1), Point(3, 2)), Line(Point(5, 5), Point(4, 0))
        line.height(Point(7, 7))
        line.share(Point(6, 3))
        self.assertIsNotNone(line & other)
        for value in [None, nested(30)]:
            with self.assertRaises(BadPoint):
                line.height(value)
            with self.assertRaises(TypeError):
                line &= value
        with self.assertRaises(Off):
            line.share(Point(7, 7))
        self.assertEqual((line.one, line.other), (Point(0, 1), Point(3, 2)))
        self.assertEqual((other.one, other.other), (Point(5, 5), Point(4, 0)))


if __name__ == "__main__":
    unittest.main()
