"""Point 6, and what points 2 and 3 say of it."""

import operator
import unittest

from seenabout.charts import Chart
from seenabout.errors import BadChart, BadLine, Needed, NoMark
from seenabout.lands import Land
from seenabout.points import Line, Point
from seenabout.ratios import Ratio
from tests import plain
from tests.wrong import Case, nested, values_of_all_classes, values_of_every_kind

THREE = ["mark a 0 0", "mark b 4 0", "mark c 0 4"]
SEVEN = plain.text_of(plain.SEVEN).split("\n")

WRONG_FORMS = [
    "", " ", "mark", "mark ", "mark d", "mark d 1", "mark d 1 2 3", "mark d 1 2 ", " mark d 1 2", "mark  d 1 2",
    "mark d  1 2", "mark d 1  2", "mark\td 1 2", "mark d 1\t2", "d 1 2", "Mark d 1 2", "MARK d 1 2", "marks d 1 2",
    "mar d 1 2", "at 1 2", "go 1 2", "towards a until b c", "mark d 1,2", "mark d 1, 2", "mark d (1 2)",
    "mark D 1 2", "mark dE 1 2", "mark d1 1 2", "mark d_ 1 2", "mark 1 1 2", "mark - 1 2", "mark d-e 1 2", "mark  1 2",
    "mark ninechars 1 2", "mark abcdefghi 1 2", "mark abcdefghijk 1 2", "mark d' 1 2", "mark 'd' 1 2", "mark d. 1 2",
    "mark d 01 2", "mark d 1 02", "mark d 00 2", "mark d 1 00", "mark d +1 2", "mark d 1 +2", "mark d -0 2", "mark d 1 -0",
    "mark d -01 2", "mark d 1 -002", "mark d 1000 2", "mark d 1 1000", "mark d -1000 2", "mark d 1 -1000",
    "mark d 999999999999 2", "mark d 1 -999999999999", "mark d 0999 2", "mark d 1.0 2", "mark d 1 2.", "mark d 1/2 2",
    "mark d 1 4/2", "mark d 1e1 2", "mark d 1_0 2", "mark d --1 2", "mark d 1 -", "mark d x 2", "mark d 1 y", "mark d 1 2-",
    "mark d 1 2\r", "mark d 0x1 2", "mark d True 2", "mark d 1 None", "mark\nd 1 2",
]
# Lines of the right form that cannot stand behind the three lines.
NO_ROOM = ["mark a 7 9", "mark b 7 9", "mark c 7 9", "mark d 0 0", "mark d 4 0", "mark d 0 4", "mark a 0 0",
           "mark d 2 0", "mark d 9 0", "mark d -1 0", "mark d 0 -5", "mark d 0 2", "mark d 2 2", "mark d 5 -1", "mark d -995 999"]
RIGHT = ["mark d 5 5", "mark d -1 -1", "mark d 999 -999", "mark d -999 999", "mark d 1 1", "mark abcdefgh 1 2", "mark z 1 2",
         "mark mark 1 2", "mark aa 1 2", "mark d 10 -100", "mark ab 3 2", "mark d -1 1"]


def text_of(lines):
    return "\n".join(lines)


def all_of(chart):
    """What callers are told of a chart."""
    return chart.text, chart.names, chart.pairs, [chart[name].text for name in chart.names]


class Texts(Case):

    def wrong(self, number, text):
        with self.assertRaises(BadChart) as caught:
            Chart(text)
        self.assertIs(type(caught.exception.value), int)
        self.assertEqual(caught.exception.value, number, repr(text))

    def test_three_to_seven_lines(self):
        for many in range(3, 8):
            chart = Chart(text_of(SEVEN[:many]))
            self.assertEqual(len(chart), many)
            self.assertEqual(chart.text, text_of(SEVEN[:many]))
        for marks in plain.SMALL + plain.MIDDLE + plain.LARGE:
            self.assertEqual(Chart(text=plain.text_of(marks)).names, tuple(marks))

    def test_no_string(self):
        for value in values_of_all_classes() + [nested(30)]:
            if not isinstance(value, str):
                self.wrong(0, value)

    def test_too_few_lines(self):
        self.wrong(1, "")
        self.wrong(2, THREE[0])
        self.wrong(3, text_of(THREE[:2]))

    def test_an_eighth_line(self):
        for line in ["mark h 500 501", "mark", "", "mark a 0 0"]:
            self.wrong(8, text_of(SEVEN + [line]))
        self.wrong(8, text_of(SEVEN + ["mark h 500 501", "mark i 1 2"]))

    def test_wrong_forms(self):
        for line in WRONG_FORMS:
            self.wrong(4, text_of(THREE + [line]))
            self.wrong(1, text_of([line] + THREE))
            self.wrong(2, text_of([THREE[0], line] + THREE[1:]))
            self.wrong(3, text_of(THREE[:2] + [line]))

    def test_line_feeds(self):
        self.wrong(4, text_of(THREE) + "\n")
        self.wrong(5, text_of(THREE + RIGHT[:1]) + "\n")
        self.wrong(8, text_of(SEVEN) + "\n")
        self.wrong(1, "\n" + text_of(THREE))
        self.wrong(2, text_of([THREE[0], "", *THREE[1:]]))
        self.wrong(4, text_of(THREE) + "\n\n")
        self.wrong(1, text_of(THREE).replace("\n", "\r\n"))
        self.wrong(1, text_of(THREE).replace("\n", " "))
        self.wrong(1, text_of(THREE).replace("\n", ";"))

    def test_no_room_behind_the_lines_ahead(self):
        for line in NO_ROOM:
            self.wrong(4, text_of(THREE + [line]))
            self.wrong(4, text_of(THREE + [line] + RIGHT[:1]))
        self.wrong(2, text_of([THREE[0], "mark a 5 5", THREE[2]]))
        self.wrong(2, text_of([THREE[0], "mark b 0 0", THREE[2]]))
        self.wrong(3, text_of([*THREE[:2], "mark c 8 0"]))
        self.wrong(3, text_of([*THREE[:2], "mark c 1 0"]))
        self.wrong(3, text_of([*THREE[:2], "mark c 4 0"]))

    def test_three_on_one_line_anywhere(self):
        self.wrong(6, text_of(SEVEN[:5] + ["mark h 33 118"]))
        self.assertEqual(len(Chart(text_of(SEVEN[:5] + ["mark h 33 117"]))), 6)
        wide = ["mark a -999 -999", "mark b 999 998", "mark c 0 5"]
        self.wrong(4, text_of(wide + ["mark d 333 336"]))
        self.assertEqual(len(Chart(text_of(wide + ["mark d 1 0"]))), 4)

    def test_only_the_first_wrong_line_is_told(self):
        self.wrong(2, text_of([THREE[0], "mark", "mark", ""]))
        self.wrong(1, text_of(["x"] * 9))
        self.wrong(1, "mark")
        self.wrong(2, text_of([THREE[0], "mark B 1 1"]))
        self.wrong(2, text_of([THREE[0], THREE[0], THREE[0]]))
        # What is wrong in the first line does not count for what stands behind it.
        self.wrong(1, text_of(["mark a 0 1000", "mark a 1 1", "mark b 2 2", "mark c 3 3"]))

    def test_right_lines(self):
        for line in RIGHT:
            self.assertEqual(Chart(text_of(THREE + [line])).names[:3], ("a", "b", "c"))
        for x, y in [(999, 998), (-999, 1), (-1, 7), (100, -10)]:
            self.assertEqual(Chart(text_of(THREE + [f"mark d {x} {y}"]))["d"], Point(x, y))


class Told(Case):

    def test_names_and_pairs(self):
        chart = Chart(text_of(THREE))
        self.assertEqual(chart.names, ("a", "b", "c"))
        self.assertEqual(chart.pairs, (("a", "b"), ("a", "c"), ("b", "c")))
        chart = Chart("mark z 1 2\nmark oak 9 1\nmark a 4 4\nmark mill 5 -7")
        self.assertEqual(chart.names, ("z", "oak", "a", "mill"))
        self.assertEqual(chart.pairs, (("z", "oak"), ("z", "a"), ("z", "mill"), ("oak", "a"), ("oak", "mill"), ("a", "mill")))
        for marks in plain.LARGE:
            chart = plain.chart_of(marks)
            self.assertEqual(chart.pairs, tuple(plain.pairs(marks)))
            self.assertEqual(len(chart.pairs), len(marks) * (len(marks) - 1) // 2)

    def test_marks(self):
        for marks in plain.SMALL + plain.LARGE:
            chart = plain.chart_of(marks)
            for name, (x, y) in marks.items():
                self.assertIs(type(chart[name]), Point)
                self.assertEqual(chart[name], Point(x, y))

    def test_no_marks(self):
        chart = Chart(text_of(THREE))
        for value in values_of_all_classes():
            if value not in ("a", "b", "c"):
                self.refused(NoMark, value, operator.getitem, chart, value)
                self.assertIs(value in chart, False)
                self.refused(NoMark, value, chart.line, value, "a")
                self.refused(NoMark, value, chart.line, value, None)
                self.refused(NoMark, value, chart.line, "a", value)
                self.refused(NoMark, value, chart.line, other="b", one=value)
                self.refused(NoMark, value, chart.without, value)
        for name in ["d", "A", "aa", "a ", "", "ab", "mark"]:
            self.refused(NoMark, name, operator.getitem, chart, name)

    def test_in(self):
        chart = plain.chart_of(plain.SLANT)
        for name in ("mill", "oak", "z"):
            self.assertIs(name in chart, True)
        for value in ["mil", "mill ", "a", 0, 1, None, True, ("mill",), ["mill"], {"mill": 1}, Point(-7, 3), chart["mill"], chart]:
            self.assertIs(value in chart, False)

    def test_line(self):
        for marks in [plain.TRIANGLE, plain.SLANT, plain.SEVEN]:
            chart = plain.chart_of(marks)
            for one in marks:
                for other in marks:
                    if one != other:
                        self.assertIs(type(chart.line(one, other)), Line)
                        self.assertEqual(chart.line(one, other), Line(Point(*marks[one]), Point(*marks[other])))
                        self.assertEqual(chart.line(other=other, one=one), chart.line(one, other))

    def test_line_to_itself(self):
        chart = plain.chart_of(plain.SLANT)
        for name in chart.names:
            same = "".join(list(name))
            self.refused(NoMark, same, chart.line, name, same)

    def test_len(self):
        for marks in plain.SMALL + plain.MIDDLE + plain.LARGE:
            self.assertEqual(len(plain.chart_of(marks)), len(marks))


class Further(Case):

    def test_plus(self):
        chart = Chart(text_of(THREE))
        for line in RIGHT:
            more = chart + line
            self.assertIs(type(more), Chart)
            self.assertEqual(all_of(more), all_of(Chart(text_of(THREE + [line]))))
        grown = chart
        for line in ["mark d 6 6", "mark e 1 -3", "mark f 20 7", "mark g -9 30"]:
            grown = grown + line
        self.assertEqual(grown.names, ("a", "b", "c", "d", "e", "f", "g"))
        self.assertEqual(all_of(chart), all_of(Chart(text_of(THREE))))
        again = chart
        again += RIGHT[0]
        self.assertEqual((len(again), len(chart)), (4, 3))

    def test_plus_what_cannot_stand_there(self):
        chart = Chart(text_of(THREE))
        for line in WRONG_FORMS + NO_ROOM + ["mark d 5 5\n", "\nmark d 5 5", "mark d 5 5\nmark e 1 9", text_of(THREE)]:
            self.refused(BadLine, line, operator.add, chart, line)
        for value in values_of_all_classes() + [nested(30), ["mark d 5 5"], ("mark d 5 5",), {"mark d 5 5": 1}]:
            if value not in RIGHT:
                self.refused(BadLine, value, operator.add, chart, value)
        self.assertEqual(all_of(chart), all_of(Chart(text_of(THREE))))

    def test_plus_an_eighth_mark(self):
        full = plain.chart_of(plain.SEVEN)
        self.refused(BadLine, "mark h 500 501", operator.add, full, "mark h 500 501")
        self.assertEqual(len(full.without("c") + "mark h 500 501"), 7)

    def test_no_other_operands(self):
        chart = Chart(text_of(THREE))
        for value in [0, True, None, "mark d 5 5", (), [], {}, Ratio(1), Point(1, 2), Land(((0, 0), (1, 0), (0, 1)))]:
            with self.assertRaises(TypeError):
                value + chart
            for sign in [operator.sub, operator.mul, operator.and_, operator.or_, operator.lt, operator.le, operator.gt,
                         operator.ge]:
                with self.assertRaises(TypeError):
                    sign(chart, value)
        for sign in [operator.neg, abs]:
            with self.assertRaises(TypeError):
                sign(chart)

    def test_without(self):
        for marks in [plain.SQUARE, plain.HOUSE, plain.SEVEN]:
            chart = plain.chart_of(marks)
            for name in marks:
                rest = {other: at for other, at in marks.items() if other != name}
                self.assertIs(type(chart.without(name)), Chart)
                self.assertEqual(all_of(chart.without(name=name)), all_of(plain.chart_of(rest)))
            self.assertEqual(all_of(chart), all_of(plain.chart_of(marks)))

    def test_needed(self):
        chart = Chart(text_of(THREE))
        for name in chart.names:
            self.refused(Needed, name, chart.without, name)
        self.refused(NoMark, "d", chart.without, "d")
        self.assertEqual(all_of((chart + "mark d 5 5").without("d")), all_of(chart))
        self.refused(Needed, "b", (chart + "mark d 5 5").without("a").without, "b")


class Equality(Case):

    def test_just_by_the_text(self):
        for marks in plain.SMALL:
            self.assertIs(plain.chart_of(marks) == plain.chart_of(marks), True)
            self.assertIs(plain.chart_of(marks) != plain.chart_of(marks), False)
        chart = Chart(text_of(THREE))
        for lines in [THREE[::-1], [*THREE[:2], "mark d 0 4"], [*THREE[:2], "mark c 0 5"], THREE + RIGHT[:1]]:
            self.assertIs(chart == Chart(text_of(lines)), False)
            self.assertIs(chart != Chart(text_of(lines)), True)

    def test_equal_to_nothing_else(self):
        chart = Chart(text_of(THREE))
        for value in values_of_every_kind() + [chart.text, chart.names, chart.pairs, len(chart), (chart,), chart["a"]]:
            self.assertIs(chart == value, False)
            self.assertIs(value == chart, False)
            self.assertIs(chart != value, True)


if __name__ == "__main__":
    unittest.main()
