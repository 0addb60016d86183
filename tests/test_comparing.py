"""Point 15 as far as two charts are compared, and what points 2, 3 and 9 say of it."""

import itertools
import unittest

from seenabout.charts import Chart
from seenabout.comparing import apart
from seenabout.errors import BadLand, Unlike
from seenabout.lands import Land
from seenabout.seeing import rounds
from tests import plain
from tests.wrong import Case, is_same, values_of_all_classes

PATCH = ((1, 1), (5, 1), (1, 5))
LANDS = [None, PATCH, ((-3, -2), (7, -4), (9, 5), (0, 8)), ((5, -3), (8, -3), (8, 1), (5, 1)), ((0, 0), (4, 0), (0, 4))]
# Marks with the same names at other places.
GROUPS = [
    [{"a": (0, 0), "b": (4, 0), "c": (0, 4)}, {"a": (0, 0), "b": (0, 4), "c": (4, 0)}, {"a": (2, 1), "b": (5, 5), "c": (3, -1)}, {"a": (9, 1), "b": (5, 5), "c": (-3, -1)}],
    [{"a": (0, 0), "b": (4, 0), "c": (4, 4), "d": (0, 4)}, {"a": (0, 0), "b": (9, 1), "c": (2, 8), "d": (3, 3)}, {"a": (0, 0), "b": (4, 4), "c": (4, 0), "d": (0, 4)},
     {"a": (0, 0), "b": (4, 0), "c": (5, 5), "d": (0, 4)}],
    [plain.FIVE, {"a": (0, 0), "b": (4, 0), "c": (0, 4), "d": (6, 7), "e": (1, -3)}, {"a": (4, 0), "b": (0, 0), "c": (0, 4), "d": (6, 6), "e": (1, -3)}],
    [plain.SEVEN, plain.SEVEN_FLAT],
]


def seen(marks, corners):
    return {told for _, told in plain.seen_within(tuple(marks.items()), corners)}


class Apart(Case):

    def right(self, one, other, corners):
        told = apart(plain.chart_of(one), plain.chart_of(other), land=plain.land_of(corners))
        first, second = seen(one, corners), seen(other, corners)
        self.assertTrue(is_same(told, (tuple(sorted(first - second)), tuple(sorted(second - first)))), (one, other, corners))
        return told

    def test_example(self):
        self.assertTrue(is_same(apart(plain.chart_of(plain.TRIANGLE), Chart("mark a 0 0\nmark b 0 4\nmark c 4 0")), ((), ())))
        self.assertTrue(is_same(apart(land=None, other=plain.chart_of(plain.TRIANGLE), one=plain.chart_of(plain.TRIANGLE)), ((), ())))

    def test_marks_elsewhere_or_exchanged(self):
        found = 0
        for group in GROUPS:
            for (one, other), corners in itertools.product(itertools.product(group, repeat=2), LANDS):
                told = self.right(one, other, corners)
                self.assertEqual(told[::-1], apart(plain.chart_of(other), plain.chart_of(one), land=plain.land_of(corners)))
                found += told != ((), ())
        self.assertGreater(found, 50)

    def test_a_chart_and_itself(self):
        for marks in [plain.TRIANGLE, plain.SQUARE, plain.FIVE, plain.SEVEN]:
            for corners in LANDS:
                self.assertTrue(is_same(self.right(marks, dict(marks), corners), ((), ())))

    def test_moved_stretched_and_turned_over(self):
        for marks in [plain.SQUARE, plain.INNER, plain.FIVE, plain.HOUSE]:
            moved = {name: (x * 3 - 40, y * 7 + 13) for name, (x, y) in marks.items()}
            self.assertTrue(is_same(self.right(marks, moved, None), ((), ())))
            over = {name: (y, x) for name, (x, y) in marks.items()}
            first, second = self.right(marks, over, None)
            self.assertEqual(sorted(told[:1] + told[:0:-1] for told in first), list(second))

    def test_what_both_see(self):
        for corners in LANDS:
            for one, other in itertools.permutations(GROUPS[1], 2):
                charts, land = [plain.chart_of(one), plain.chart_of(other)], plain.land_of(corners)
                told = apart(*charts, land=land)
                both = set(rounds(charts[0], land=land)) & set(rounds(charts[1], land=land))
                for own, all_own in zip(told, [rounds(chart, land=land) for chart in charts]):
                    self.assertEqual(set(own) | both, set(all_own))
                    self.assertEqual(list(own), sorted(own))


class Refused(Case):

    def test_other_names(self):
        chart = plain.chart_of(plain.SQUARE)
        for text in ["mark a 0 0\nmark b 4 0\nmark c 4 4\nmark e 0 4", "mark b 4 0\nmark a 0 0\nmark c 4 4\nmark d 0 4", "mark a 0 0\nmark b 4 0\nmark c 4 4",
                     "mark a 0 0\nmark b 4 0\nmark c 4 4\nmark d 0 4\nmark e 9 1", "mark a 0 0\nmark c 4 0\nmark b 4 4\nmark d 0 4"]:
            other = Chart(text)
            self.refused(Unlike, other, apart, chart, other)
            self.refused(Unlike, other, apart, chart, other, land=7)
            self.refused(Unlike, chart, apart, land=7, other=chart, one=other)

    def test_no_chart(self):
        chart = plain.chart_of(plain.TRIANGLE)
        for value in [*values_of_all_classes(), ("a", "b", "c"), chart.text, chart.names]:
            if type(value) is not Chart or value.names != chart.names:
                self.refused(Unlike, value, apart, chart, value)
                self.refused(Unlike, value, apart, chart, value, land=value)

    def test_lands(self):
        chart = plain.chart_of(plain.TRIANGLE)
        for value in values_of_all_classes() + [PATCH]:
            if value is not None and type(value) is not Land:
                self.refused(BadLand, value, apart, chart, chart, land=value)
        with self.assertRaises(TypeError):
            apart(chart, chart, None)


if __name__ == "__main__":
    unittest.main()
