"""Point 7, and what points 2 and 3 say of it."""

import itertools
import unittest
from fractions import Fraction

from seenabout.errors import AtMark, BadNames, BadPoint
from seenabout.points import Point
from seenabout.ratios import Ratio
from seenabout.sights import about, sides
from tests import plain
from tests.wrong import Case, is_same, nested, values_of_all_classes

ABC, ACB = (("a",), ("b",), ("c",)), (("a",), ("c",), ("b",))
TRIANGLE = plain.chart_of(plain.TRIANGLE)


def wrong_names(names):
    """Values that are no choice of three or more of these names in sequence."""
    first, second, third, *rest = names
    return [
        (), (first,), (first, second), (second, third), (first, first, second), (first, second, second), names + (names[-1],),
        (second, first, third), (first, third, second), names[::-1], [*names], [first, second, third], [], {first: 1},
        (first, second, "x"), ("x", second, third), (first, second, third.upper()), (first, second, third + " "),
        (first, second, None), (first, second, 2), (0, 1, 2), (first, second, (third,)), ((first, second, third),),
        (first, second, third, [first]), "".join(names), " ".join(names), first, (first, True, third), nested(30),
        *[value for value in values_of_all_classes() if value is not None and not is_same(value, ("a", "b", "c"))],
    ]


class Sides(Case):

    def test_beyond_and_between_and_off_the_lines(self):
        for x, y, wanted in [
            (1, 1, (1, -1, 1)), (3, 3, (1, -1, -1)), (-1, -1, (-1, 1, 1)), (-1, 1, (1, 1, 1)), (1, -1, (-1, -1, 1)),
            (9, -1, (-1, -1, -1)), (-1, 9, (1, 1, -1)), (2, 0, (0, -1, 1)), (6, 0, (0, -1, -1)), (-3, 0, (0, 1, 1)),
            (0, 1, (1, 0, 1)), (0, 9, (1, 0, -1)), (0, -9, (-1, 0, 1)), (2, 2, (1, -1, 0)), (5, -1, (-1, -1, 0)),
            (-1, 5, (1, 1, 0)),
        ]:
            told = sides(TRIANGLE, Point(x, y))
            self.assertTrue(is_same(told, wanted), (x, y, told))
        self.assertEqual(sides(point=Point(1, 1), chart=TRIANGLE), (1, -1, 1))

    def test_fractions_and_far_away(self):
        third, little = Ratio(1, 3), Ratio(1, 999999999999)
        self.assertEqual(sides(TRIANGLE, Point(third, 4 - third)), (1, -1, 0))
        self.assertEqual(sides(TRIANGLE, Point(third, 4 - third - little)), (1, -1, 1))
        self.assertEqual(sides(TRIANGLE, Point(third, 4 - third + little)), (1, -1, -1))
        self.assertEqual(sides(TRIANGLE, Point(999999999999, 0)), (0, -1, -1))
        self.assertEqual(sides(TRIANGLE, Point(999999999999, -little)), (-1, -1, -1))
        self.assertEqual(sides(TRIANGLE, Point(-999999999999, little)), (1, 1, 1))
        self.assertEqual(sides(TRIANGLE, Point(0, little)), (1, 0, 1))

    def test_everywhere(self):
        for marks in plain.SMALL + plain.MIDDLE + plain.LARGE:
            chart = plain.chart_of(marks)
            for at in plain.places_everywhere(marks):
                told = sides(chart, plain.point(at))
                self.assertTrue(is_same(told, plain.sides(marks, at)), (marks, at, told))


class About(Case):

    def test_triangle(self):
        beyond = {(6, 0): (("a", "b"), ("c",)), (-3, 0): (("a", "b"), ("c",)), (0, 9): (("a", "c"), ("b",)),
                  (0, -9): (("a", "c"), ("b",)), (5, -1): (("a",), ("b", "c")), (-1, 5): (("a",), ("b", "c"))}
        for (x, y), wanted in beyond.items():
            self.assertTrue(is_same(about(TRIANGLE, Point(x, y)), wanted))
        for x, y in [(1, 1), (3, 3), (-1, 1), (1, -1), (2, 0), (0, 1), (2, 2)]:
            self.assertEqual(about(TRIANGLE, Point(x, y)), ABC)
        for x, y in [(-1, -1), (9, -1), (-1, 9)]:
            self.assertEqual(about(TRIANGLE, Point(x, y)), ACB)
        self.assertEqual(about(point=Point(1, 1), chart=TRIANGLE, among=None), ABC)

    def test_what_section_7_says_of_three_marks(self):
        for marks in [plain.TRIANGLE, plain.SLANT]:
            chart, (a, b, c) = plain.chart_of(marks), marks
            if plain.height(marks[a], marks[b], marks[c]) < 0:
                b, c = c, b
            for at in plain.places_everywhere(marks):
                left = [plain.sign(plain.height(marks[one], marks[other], at)) for one, other in [(a, b), (b, c), (c, a)]]
                self.assertNotEqual(left, [-1, -1, -1])
                if 0 not in left:
                    turned = about(chart, plain.point(at))
                    names = [name for group in turned for name in group]
                    names = names[names.index(a):] + names[:names.index(a)]
                    self.assertEqual(names, [a, b, c] if left.count(1) > 1 else [a, c, b])

    def test_marks_behind_ones_back_are_in_another_direction(self):
        square = plain.chart_of(plain.SQUARE)
        self.assertEqual(about(square, Point(2, 2)), (("a",), ("b",), ("c",), ("d",)))
        self.assertEqual(about(square, Point(5, 5)), (("a", "c"), ("b",), ("d",)))
        self.assertEqual(about(square, Point(1, 1)), (("a",), ("b",), ("c",), ("d",)))
        self.assertEqual(about(square, Point(6, -2)), (("a",), ("c",), ("b", "d")))
        self.assertEqual(about(square, Point(2, -9)), (("a",), ("b",), ("c",), ("d",)))
        hexagon = plain.chart_of(plain.HEXAGON)
        self.assertEqual(about(hexagon, Point(0, 0)), (("a",), ("b",), ("c",), ("d",), ("e",), ("f",)))
        self.assertEqual(about(hexagon, Point(3, 0))[0], ("a", "d"))

    def test_the_first_mark_is_not_always_to_the_right(self):
        inner = plain.chart_of(plain.INNER)
        self.assertEqual(about(inner, Point(3, 2)), plain.about(plain.INNER, (3, 2)))
        self.assertEqual({about(inner, Point(x, y))[0][0] for x in range(-9, 9) for y in range(-9, 9)
                          if (x, y) not in plain.INNER.values()}, {"a"})

    def test_groups_stand_in_the_sequence_of_the_chart(self):
        chart = plain.chart_of({"z": (0, 0), "b": (4, 0), "a": (0, 4)})
        self.assertEqual(about(chart, Point(6, 0)), (("z", "b"), ("a",)))
        self.assertEqual(about(chart, Point(-6, 0)), (("z", "b"), ("a",)))
        self.assertEqual(about(chart, Point(5, -1)), (("z",), ("b", "a")))

    def test_everywhere(self):
        for marks in plain.SMALL + plain.MIDDLE + plain.LARGE:
            chart = plain.chart_of(marks)
            for at in plain.places_everywhere(marks):
                told = about(chart, plain.point(at))
                self.assertTrue(is_same(told, plain.about(marks, at)), (marks, at, told))

    def test_far_away_and_fractions(self):
        for at in [(10 ** 12 - 1, 1), (-(10 ** 12 - 1), 0), (Fraction(1, 10 ** 11), Fraction(-3, 10 ** 11 - 7)),
                   (Fraction(10 ** 12 - 1, 7), Fraction(1, 999999999989))]:
            for marks in [plain.TRIANGLE, plain.SEVEN, plain.LONG]:
                chart = plain.chart_of(marks)
                self.assertEqual(about(chart, plain.point(at)), plain.about(marks, at))
                self.assertEqual(sides(chart, plain.point(at)), plain.sides(marks, at))

    def test_among(self):
        for marks in [plain.INNER, plain.HOUSE, plain.SEVEN_FLAT]:
            chart = plain.chart_of(marks)
            choices = [choice for many in range(3, len(marks) + 1) for choice in itertools.combinations(marks, many)]
            for number, at in enumerate(plain.places_everywhere(marks)):
                among = choices[number * 7 % len(choices)]
                told = about(chart, plain.point(at), among=among)
                self.assertTrue(is_same(told, plain.about(marks, at, among)), (marks, at, among, told))
        self.assertEqual(about(TRIANGLE, Point(1, 1), among=("a", "b", "c")), ABC)

    def test_sides_settle(self):
        for marks in [plain.SQUARE, plain.FIVE]:
            chart, names = plain.chart_of(marks), tuple(marks)
            told = {}
            for x, y in itertools.product(range(-6, 9), range(-5, 8)):
                if (x, y) not in marks.values():
                    at = Point(Ratio(2 * x + 1, 2), y) if x % 2 else Point(x, y)
                    seen = [about(chart, at), about(chart, at, among=names[1:]), about(chart, at, among=names[:3])]
                    self.assertEqual(told.setdefault(sides(chart, at), seen), seen)


class Refused(Case):

    def test_bad_point(self):
        for value in values_of_all_classes() + [nested(30), (1, 1), "1 1"]:
            if not isinstance(value, Point):
                self.refused(BadPoint, value, sides, TRIANGLE, value)
                self.refused(BadPoint, value, about, TRIANGLE, value)
                self.refused(BadPoint, value, about, TRIANGLE, point=value, among=7)

    def test_at_mark(self):
        for marks in [plain.TRIANGLE, plain.SEVEN]:
            chart = plain.chart_of(marks)
            for name, (x, y) in marks.items():
                for at in [Point(x, y), Point(Ratio(2 * x, 2), Ratio(y))]:
                    for call in [lambda: sides(chart, at), lambda: about(chart, at), lambda: about(chart, at, among=None),
                                 lambda: about(chart, at, among="a"), lambda: about(chart, at, among=tuple(marks)[:3])]:
                        with self.assertRaises(AtMark) as caught:
                            call()
                        self.assertTrue(is_same(caught.exception.value, name))
        close = Ratio(1, 999999999999)
        self.assertEqual(sides(TRIANGLE, Point(4 + close, 0)), (0, -1, -1))

    def test_bad_names(self):
        for marks in [plain.TRIANGLE, plain.SQUARE, plain.SEVEN]:
            chart = plain.chart_of(marks)
            for value in wrong_names(chart.names):
                self.refused(BadNames, value, about, chart, Point(1, 2), among=value)

    def test_among_is_told_by_name(self):
        with self.assertRaises(TypeError):
            about(TRIANGLE, Point(1, 1), ("a", "b", "c"))

    def test_which_error_comes_first(self):
        self.refused(BadPoint, None, about, TRIANGLE, None, among="b")
        with self.assertRaises(AtMark):
            about(TRIANGLE, Point(0, 0), among=())
        value = ["a", "b", "c"]
        self.refused(BadNames, value, about, TRIANGLE, Point(1, 0), among=value)

    def test_nothing_changes(self):
        among, at = ("a", "b", "c"), Point(Ratio(1, 2), 3)
        about(TRIANGLE, at, among=among)
        sides(TRIANGLE, at)
        self.assertEqual((among, at.text, TRIANGLE.text), (("a", "b", "c"), "1/2 3", plain.text_of(plain.TRIANGLE)))


if __name__ == "__main__":
    unittest.main()
