"""Point 3: moved, stretched and turned-over charts, and fewer marks."""

import itertools
import unittest
from fractions import Fraction

from seenabout.cells import cells, next_to, pieces, place_of, shows_place_of
from seenabout.lands import Land
from seenabout.sights import about, sides
from tests import plain

CHARTS = [plain.TRIANGLE, plain.SLANT, plain.SQUARE, plain.INNER, plain.HOUSE, plain.SEVEN]
LANDS = [((-3, -2), (7, -4), (9, 5), (0, 8)), ((1, 1), (5, 1), (1, 5)), ((-20, 0), (4, -1), (30, 20))]
KINDS = {
    "moved": lambda x, y: (x + 17, y - 40),
    "moved far": lambda x, y: (x - 300, y + 501),
    "stretched": lambda x, y: (x * 3, y * 7),
    "stretched and moved": lambda x, y: (x * 9 + 5, y * 2 - 8),
}


def changed(marks, kind):
    return {name: kind(x, y) for name, (x, y) in marks.items()}


def turned_over(marks):
    return {name: (y, x) for name, (x, y) in marks.items()}


def other_signs(cell):
    return tuple(-side for side in cell)


def other_way_about(seen):
    return seen[:1] + seen[:0:-1]


def some_places(marks):
    return plain.places_everywhere(marks)[::7]


class MovedAndStretched(unittest.TestCase):

    def all_kinds(self):
        for marks, (name, kind) in itertools.product(CHARTS, KINDS.items()):
            with self.subTest(name, marks=marks):
                yield marks, kind, plain.chart_of(marks), plain.chart_of(changed(marks, kind))

    def test_sides_and_rounds(self):
        for marks, kind, chart, other in self.all_kinds():
            for at in some_places(marks):
                here, there = plain.point(at), plain.point(kind(*at))
                self.assertEqual(sides(chart, here), sides(other, there))
                self.assertEqual(about(chart, here), about(other, there))
                self.assertEqual(about(chart, here, among=chart.names[-3:]), about(other, there, among=chart.names[-3:]))

    def test_cells(self):
        for marks, kind, chart, other in self.all_kinds():
            self.assertEqual(cells(chart), cells(other))
            for cell in cells(chart)[::11]:
                self.assertEqual(next_to(chart, cell), next_to(other, cell))
                self.assertEqual(place_of(chart, cell)[0], place_of(other, cell)[0])
                self.assertEqual(place_of(chart, other_signs(cell))[0], place_of(other, other_signs(cell))[0])
                moved = plain.point(kind(*plain.place(place_of(chart, cell)[1])))
                self.assertIs(shows_place_of(other, cell, ("place", moved)), True)
            self.assertEqual(pieces(chart, cells(chart)[::3]), pieces(other, cells(chart)[::3]))

    def test_lands(self):
        for corners, kind in itertools.product(LANDS, KINDS.values()):
            land, moved = Land(corners), Land(tuple(kind(*corner) for corner in corners))
            for at in itertools.product(range(-4, 10), [Fraction(-7, 2), 0, 1, 2, Fraction(9, 2), 6]):
                self.assertIs(plain.point(at) in land, plain.point(kind(*at)) in moved)


class TurnedOver(unittest.TestCase):

    def test_sides_and_rounds(self):
        for marks in CHARTS:
            chart, other = plain.chart_of(marks), plain.chart_of(turned_over(marks))
            for x, y in some_places(marks):
                here, there = plain.point((x, y)), plain.point((y, x))
                self.assertEqual(sides(other, there), other_signs(sides(chart, here)))
                self.assertEqual(about(other, there), other_way_about(about(chart, here)))

    def test_cells(self):
        for marks in CHARTS:
            chart, other = plain.chart_of(marks), plain.chart_of(turned_over(marks))
            self.assertEqual(cells(other), tuple(sorted(other_signs(cell) for cell in cells(chart))))
            for cell in cells(chart)[::11]:
                wanted = sorted(other_signs(one) for one in next_to(chart, cell))
                self.assertEqual(next_to(other, other_signs(cell)), tuple(wanted))


class FewerMarks(unittest.TestCase):

    def test_rounds_of_more_marks_tell_those_of_fewer(self):
        for marks in [plain.INNER, plain.HOUSE, plain.SEVEN]:
            chart, told = plain.chart_of(marks), {}
            for at in plain.places_everywhere(marks)[::3]:
                here = plain.point(at)
                rows = [about(chart, here), about(chart, here, among=chart.names[:3]), about(chart, here, among=chart.names[1:])]
                self.assertEqual(told.setdefault(rows[0], rows), rows)

    def test_a_chart_without_a_mark(self):
        for marks in [plain.INNER, plain.HOUSE, plain.SEVEN]:
            chart = plain.chart_of(marks)
            for name in marks:
                less, rest = chart.without(name), tuple(other for other in marks if other != name)
                kept = [number for number, pair in enumerate(chart.pairs) if name not in pair]
                for at in some_places(marks):
                    here = plain.point(at)
                    self.assertEqual(about(less, here), about(chart, here, among=rest))
                    self.assertEqual(sides(less, here), tuple(sides(chart, here)[number] for number in kept))
                # Where the mark stood one can stand now: that may be a cell that there was not.
                told = {tuple(cell[number] for number in kept) for cell in cells(chart)}
                self.assertEqual(set(cells(less)), told)


if __name__ == "__main__":
    unittest.main()
