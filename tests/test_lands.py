"""Point 9, and what points 2 and 3 say of it."""

import itertools
import operator
import unittest
from fractions import Fraction

from seenabout.errors import BadLand
from seenabout.lands import Land
from seenabout.points import Line, Point
from seenabout.ratios import Ratio
from tests import plain
from tests.wrong import Case, is_same, nested, values_of_all_classes, values_of_every_kind

THREE = ((1, 1), (5, 1), (1, 5))
OCTAGON = ((2, 0), (4, 0), (6, 2), (6, 4), (4, 6), (2, 6), (0, 4), (0, 2))
# Corners that lie on a bow, so that any three to eight of them are a land.
BOW = [(x, x * x) for x in range(-9, 10)]
RIGHT = [
    THREE, ((0, 0), (1, 0), (0, 1)), ((-999, -999), (999, -999), (999, 999), (-999, 999)), ((999, 998), (999, 999), (-999, -999)),
    ((0, 0), (4, 0), (4, 4), (0, 4)), ((0, 0), (5, -1), (6, 3), (3, 7), (-1, 2)), OCTAGON, OCTAGON[:7], OCTAGON[1:],
    ((5, -3), (8, -3), (8, 1), (5, 1)), *[tuple(BOW[:many]) for many in range(3, 9)], *[tuple(BOW[-many:]) for many in range(3, 9)],
]
# What is refused for the way it goes round.
NO_WAY_ROUND = [
    ((0, 0), (1, 0)), ((0, 0),), (), ((0, 0), (0, 0)), tuple(BOW[:9]), OCTAGON + ((-1, 3),), OCTAGON[:4] + ((5, 5),) + OCTAGON[4:],
    ((0, 0), (1, 1), (2, 2)), ((0, 0), (2, 0), (1, 0)), ((0, 0), (2, 0), (4, 0), (0, 4)), ((2, 0), (4, 0), (0, 4), (0, 0)),
    ((0, 0), (4, 0), (0, 4), (0, 2)), ((0, 0), (4, 0), (2, 2), (0, 4)), ((0, 0), (4, 0), (4, 0), (0, 4)),
    ((0, 0), (4, 0), (0, 4), (0, 0)), ((0, 0), (0, 0), (0, 0)), ((0, 0), (4, 0), (0, 0)),
    ((0, 0), (4, 0), (1, 1), (0, 4)), ((0, 0), (4, 0), (4, 4), (3, 1)), ((0, 0), (4, 4), (4, 0), (0, 4)),
    ((0, 0), (4, 0), (0, 4), (4, 4)),
    # Twice round, turning to the left all the way.
    THREE + THREE, ((0, 0), (4, 0), (4, 4), (0, 4)) * 2, ((0, -9), (6, 8), (-9, -2), (9, -2), (-6, 8)),
    ((0, 0), (10, 0), (10, 10), (0, 10), (1, 1), (9, 2), (8, 9), (2, 8)), ((0, 0), (9, 0), (0, 9), (1, 1), (6, 2), (2, 6)),
]
NO_CORNERS = [
    [(1, 1), (5, 1), (1, 5)], [[1, 1], [5, 1], [1, 5]], ([1, 1], [5, 1], [1, 5]), ((1, 1), (5, 1), [1, 5]), ((1, 1), (5, 1), (1, 5, 0)),
    ((1, 1), (5, 1), (1,)), ((1, 1), (5, 1), ()), ((1, 1), (5, 1), 1), ((1, 1), (5, 1), None), ((1, 1), (5, 1), "15"), (1, 1, 5),
    ((1, 1), (5, 1), (1, 1000)), ((1, 1), (5, 1), (-1000, 5)), ((1, -1000), (5, 1), (1, 5)), ((1, 1), (1000, 1), (1, 5)),
    ((1, 1), (5, 1), (1, 999999999999)), ((True, 1), (5, 1), (1, 5)), ((1, 1), (5, True), (1, 5)), ((False, False), (5, 1), (1, 5)),
    ((1, 1), (5, 1), (Ratio(1), 5)), ((1, 1), (5, 1), (1, Ratio(5))), ((1, 1), (5, 1), (1, "5")), ((1, 1), (5, 1), (None, 5)),
    (Point(1, 1), Point(5, 1), Point(1, 5)), ((1, 1), (5, 1), Point(1, 5)), {(1, 1): 0, (5, 1): 1, (1, 5): 2}, "((1, 1), (5, 1), (1, 5))",
    Line(Point(1, 1), Point(5, 1)), (THREE,), nested(30), ((1, 1), (5, 1), {1: 5}), ("11", "51", "15"),
]


class Corners(Case):

    def test_right_corners(self):
        for corners in RIGHT:
            for number in range(len(corners)):
                turned = corners[number:] + corners[:number]
                self.assertTrue(is_same(Land(turned).corners, turned))
        self.assertEqual(Land(corners=THREE).corners, THREE)
        for many in range(3, 9):
            for some in itertools.islice(itertools.combinations(BOW, many), 0, 9999, 97):
                self.assertEqual(Land(some).corners, some)

    def test_turning_to_the_right(self):
        for corners in RIGHT:
            turned = corners[::-1]
            self.refused(BadLand, turned, Land, turned)

    def test_not_once_round_turning_left(self):
        for corners in NO_WAY_ROUND:
            self.refused(BadLand, corners, Land, corners)
            self.refused(BadLand, corners, Land, corners=corners)

    def test_all_ways_round_a_few_corners(self):
        spots = [(0, 0), (3, 1), (2, 4), (-1, 2), (1, 2)]
        for many in (3, 4, 5):
            for corners in itertools.product(spots, repeat=many):
                once = sum(left_turn(corners, at) for at in range(many)) == many and len(set(corners)) == many
                once = once and all(plain.in_land(corners, spot) for spot in corners)
                if once:
                    self.assertEqual(Land(corners).corners, corners)
                else:
                    self.refused(BadLand, corners, Land, corners)

    def test_no_corners(self):
        for value in NO_CORNERS + [value for value in values_of_all_classes() if not is_same(value, THREE)]:
            self.refused(BadLand, value, Land, value)

    def test_edges(self):
        for corners in RIGHT:
            edges = Land(corners).edges
            self.assertIs(type(edges), tuple)
            ends = list(zip(corners, corners[1:] + corners[:1]))
            self.assertEqual([(line.one, line.other) for line in edges], [(Point(*one), Point(*other)) for one, other in ends])
            self.assertEqual({type(line) for line in edges}, {Line})


def left_turn(corners, at):
    return plain.height(corners[at - 2], corners[at - 1], corners[at]) > 0


class Within(Case):

    def test_triangle(self):
        land, half = Land(THREE), Ratio(1, 2)
        for x, y in [(1, 1), (5, 1), (1, 5), (3, 1), (1, 3), (3, 3), (2, 2), (1, 1 + half), (half + 1, half + 1), (4 + half, 1 + half),
                     (Ratio(7, 3), Ratio(11, 3))]:
            self.assertIs(Point(x, y) in land, True, (x, y))
        little = Ratio(1, 999999999999)
        for x, y in [(0, 0), (1, 0), (1, 6), (6, 1), (3, 4), (4, 3), (5, 2), (1 - little, 1), (1, 1 - little), (3, 3 + little), (0, 3),
                     (3, 0), (-1, -1), (5 + little, 1), (9, -3), (-3, 9), (999999999999, 1)]:
            self.assertIs(Point(x, y) in land, False, (x, y))

    def test_everywhere(self):
        for corners in RIGHT:
            land = Land(corners)
            middle = tuple(Fraction(sum(numbers), len(corners)) for numbers in zip(*corners))
            self.assertIs(plain.point(middle) in land, True)
            for one, other in itertools.product(corners, repeat=2):
                for share in (0, 1, Fraction(1, 3), Fraction(-1, 7), Fraction(5, 4)):
                    for at in [plain.between(one, other, share), plain.between(middle, plain.between(one, other, share), share)]:
                        self.assertIs(plain.point(at) in land, plain.in_land(corners, at))

    def test_what_is_no_point(self):
        land = Land(THREE)
        for value in values_of_all_classes() + [nested(30), (2, 2), [2, 2], "2 2", THREE, land, land.edges[0]]:
            if not isinstance(value, Point):
                self.assertIs(value in land, False)

    def test_no_other_operands(self):
        land = Land(THREE)
        for value in values_of_every_kind() + [land]:
            for sign in [operator.add, operator.sub, operator.mul, operator.and_, operator.lt, operator.ge]:
                with self.assertRaises(TypeError):
                    sign(land, value)
                with self.assertRaises(TypeError):
                    sign(value, land)


class Equality(Case):

    def test_by_the_corners_in_sequence(self):
        for corners in RIGHT:
            self.assertIs(Land(corners) == Land(tuple(list(corners))), True)
            self.assertIs(Land(corners) != Land(corners), False)
            self.assertIs(Land(corners) == Land(corners[1:] + corners[:1]), False)
        for one, other in itertools.permutations(RIGHT, 2):
            self.assertIs(Land(one) == Land(other), one == other)

    def test_equal_to_nothing_else(self):
        land = Land(THREE)
        for value in values_of_every_kind() + [THREE, [*THREE], land.edges, plain.chart_of(plain.TRIANGLE)]:
            self.assertIs(land == value, False)
            self.assertIs(value == land, False)
            self.assertIs(land != value, True)


if __name__ == "__main__":
    unittest.main()
