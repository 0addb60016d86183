"""Point 8, and what points 2 and 3 say of it."""

import itertools
import random
import unittest

from seenabout.cells import cells, next_to, pieces, place_of, shows_no_point, shows_place_of, weights_with
from seenabout.errors import BadCells, BadSides, NoCell
from seenabout.points import Point
from seenabout.ratios import Ratio
from seenabout.sights import sides
from tests import plain
from tests.wrong import Case, is_same, nested, shapes_of, values_of_all_classes

TRIANGLE = plain.chart_of(plain.TRIANGLE)
NEVER, PAPER = (-1, 1, -1), ((0, -1), (1, 1), (2, -1))
ALL_CHARTS = plain.SMALL + plain.MIDDLE + plain.LARGE


def sides_everywhere(marks, many=None):
    """All sides that can be asked, or so many of them: some at random, some unlike those of a cell in one place."""
    count = len(plain.pairs(marks))
    if many is None:
        return itertools.product((-1, 0, 1), repeat=count)
    told, some = random.Random(7), cells(plain.chart_of(marks))
    found = [tuple(told.choice((-1, 0, 1)) for _ in range(count)) for _ in range(many)]
    for _ in range(many):
        cell, at = list(told.choice(some)), told.randrange(count)
        cell[at] = told.choice([side for side in (-1, 0, 1) if side != cell[at]])
        found.append(tuple(cell))
    return found


def papers_of_three(marks, asked):
    """Papers for sides asked, each of three lines."""
    lines = plain.lines_of(marks)
    ways = [(other[0] - one[0], other[1] - one[1]) for one, other in lines]
    for some in itertools.combinations(range(len(lines)), 3):
        turns = [plain.height((0, 0), ways[one], ways[other]) for one, other in itertools.combinations(some, 2)]
        for weights in [(turns[2], -turns[1], turns[0]), (-turns[2], turns[1], -turns[0])]:
            paper = tuple(zip(some, weights))
            if plain.is_paper(marks, asked, paper):
                yield paper


def no_sides(cell):
    """Values that are no sides asked of a chart, though this one is."""
    return [
        cell[:-1], cell + (0,), cell[1:], cell + cell, (), list(cell), [list(cell)], (cell,), [cell], str(cell), {0: cell},
        cell[:-1] + (2,), cell[:-1] + (-2,), (True,) + cell[1:], cell[:-1] + (False,), (None,) + cell[1:], cell[:-1] + ("1",),
        cell[:-1] + (Ratio(cell[-1]),), (Ratio(1),) + cell[1:], cell[:-1] + ((1,),), cell[:-1] + ([0],), cell[:-1] + ("",), {},
        ("",) * len(cell), (None,) * len(cell), (True,) * len(cell), nested(30), None, True, 1, 0, "never", cell[:-1] + (nested(29),),
        tuple(Ratio(side) for side in cell), dict(enumerate(cell)),
    ] + [value for value in values_of_all_classes() if not (type(value) is tuple and len(value) == len(cell))]


class Cells(Case):

    def test_all_of_them(self):
        for marks in ALL_CHARTS:
            told = cells(plain.chart_of(marks))
            self.assertTrue(is_same(told, tuple(plain.cells(marks))), marks)
            self.assertTrue(is_same(told, tuple(sorted(set(told)))))
        self.assertEqual(cells(chart=TRIANGLE), cells(TRIANGLE))

    def test_how_many(self):
        for marks, many in [(plain.TRIANGLE, 16), (plain.SQUARE, 37), (plain.INNER, 45)]:
            self.assertEqual(len(cells(plain.chart_of(marks))), many)

    def test_triangle(self):
        self.assertEqual(cells(TRIANGLE), (
            (-1, -1, -1), (-1, -1, 0), (-1, -1, 1), (-1, 0, 1), (-1, 1, 1), (0, -1, -1), (0, -1, 1), (0, 1, 1), (1, -1, -1),
            (1, -1, 0), (1, -1, 1), (1, 0, -1), (1, 0, 1), (1, 1, -1), (1, 1, 0), (1, 1, 1)))

    def test_the_sides_of_marks_are_no_cells(self):
        for marks in ALL_CHARTS:
            some = cells(plain.chart_of(marks))
            for at in marks.values():
                self.assertNotIn(plain.sides(marks, at), some)

    def test_places_have_cells(self):
        told = random.Random(3)
        for marks in ALL_CHARTS:
            chart, some = plain.chart_of(marks), set(cells(plain.chart_of(marks)))
            for _ in range(60):
                at = Point(Ratio(told.randint(-60, 60), told.randint(1, 3)), Ratio(told.randint(-60, 60), told.randint(1, 3)))
                if plain.place(at) not in marks.values():
                    self.assertIn(sides(chart, at), some)


class Places(Case):

    def right(self, marks, chart, asked, told):
        """What place_of tells is right, and of the only word that can be."""
        self.assertTrue(plain.is_place_of(marks, asked, told), (marks, asked, told))
        self.assertIs(shows_place_of(chart, asked, told), True)

    def test_each_cell_is_seen_from_some_place(self):
        for marks in ALL_CHARTS:
            chart = plain.chart_of(marks)
            for cell in cells(chart):
                told = place_of(chart, cell)
                self.assertEqual(told[0], "place")
                self.right(marks, chart, cell, told)

    def test_sides_of_places(self):
        for marks in plain.SMALL:
            chart = plain.chart_of(marks)
            for x, y in itertools.product(range(-3, 8), repeat=2):
                asked = plain.sides(marks, (x, y))
                self.assertEqual(place_of(chart, asked)[0], "mark" if (x, y) in marks.values() else "place")
                if (x, y) not in marks.values():
                    self.assertIs(shows_place_of(chart, asked, ("place", Point(x, y))), True)

    def test_sides_of_marks(self):
        for marks in ALL_CHARTS:
            chart = plain.chart_of(marks)
            for name, at in marks.items():
                asked = plain.sides(marks, at)
                self.assertTrue(is_same(place_of(chart, asked), ("mark", name)))
                self.assertIs(shows_place_of(chart, asked, ("mark", name)), True)
                self.assertIs(shows_place_of(chart, asked, ("place", Point(*at))), False)
                for other in marks:
                    self.assertIs(shows_place_of(chart, asked, ("mark", other)), other == name)

    def test_all_sides_of_few_marks(self):
        for marks in plain.SMALL:
            chart, some = plain.chart_of(marks), set(plain.cells(marks))
            of_marks = [plain.sides(marks, at) for at in marks.values()]
            for asked in sides_everywhere(marks):
                told = place_of(chart, sides=asked)
                self.right(marks, chart, asked, told)
                self.assertEqual(told[0], "place" if asked in some else "mark" if asked in of_marks else "never")

    def test_some_sides_of_many_marks(self):
        for marks in plain.MIDDLE + plain.LARGE:
            chart, some = plain.chart_of(marks), set(plain.cells(marks))
            for asked in sides_everywhere(marks, 60):
                told = place_of(chart, asked)
                self.right(marks, chart, asked, told)
                self.assertEqual(told[0] == "place", asked in some)

    def test_lines_side_by_side(self):
        # In the square ab and cd, numbers 0 and 5, are side by side: no point is below the one and above the other.
        square = plain.chart_of(plain.SQUARE)
        for first, last in [(-1, -1), (0, -1), (-1, 0), (0, 0)]:
            asked = (first, -1, -1, 1, 1, last)
            word, paper = place_of(square, asked)
            self.assertEqual(word, "never")
            self.assertTrue(plain.is_paper(plain.SQUARE, asked, paper))
        self.assertIs(shows_place_of(square, (-1, -1, -1, 1, 1, -1), ("never", ((0, -3), (5, -3)))), True)
        self.assertIs(shows_place_of(square, (0, -1, -1, 1, 1, 0), ("never", ((0, -3), (5, -3)))), True)
        self.assertIs(shows_place_of(square, (0, -1, -1, 1, 1, 0), ("never", ((0, 3), (5, 3)))), False)
        self.assertIs(shows_place_of(square, (-1, -1, -1, 1, 1, -1), ("never", ((0, -3), (5, -2)))), False)

    def test_two_lines_side_by_side_are_enough(self):
        # Of y, and y - 4 turned over, the sum is -4; of other lines nothing is known.
        for line, other, weights in [((0, 1, 0), (0, -1, -4), {0: 1, 1: 1}), ((0, 1, 0), (0, 3, 12), None), ((0, 2, 0), (0, -3, -12), {0: 3, 1: 2}),
                                     ((3, 6, 1), (-2, -4, -7), {0: 2, 1: 3}), ((0, 1, 0), (1, 1, 0), None)]:
            bars = [(line, 1, True), (other, 1, True)]
            self.assertEqual(weights_with(bars, 0, [1]), weights)
            self.assertEqual(weights_with(bars, 1, [0]), weights)
            self.assertIs(shows_no_point([(bars[0], 3), (bars[1], 2)]), weights == {0: 3, 1: 2})

    def test_three_lines_through_one_point(self):
        # In the hexagon ad, be and cf cross in one point: whoever is on two of them is on the third one.
        hexagon = plain.chart_of(plain.HEXAGON)
        middle = plain.sides(plain.HEXAGON, (0, 0))
        numbers = [hexagon.pairs.index(pair) for pair in [("a", "d"), ("b", "e"), ("c", "f")]]
        self.assertEqual([middle[number] for number in numbers], [0, 0, 0])
        self.assertEqual(place_of(hexagon, middle), ("place", Point(0, 0)))
        for number, side in itertools.product(numbers, (1, -1)):
            asked = middle[:number] + (side,) + middle[number + 1:]
            word, paper = place_of(hexagon, asked)
            self.assertEqual(word, "never")
            self.assertTrue(plain.is_paper(plain.HEXAGON, asked, paper))

    def test_bad_sides(self):
        for marks in [plain.TRIANGLE, plain.SQUARE, plain.SEVEN]:
            chart = plain.chart_of(marks)
            for value in no_sides(cells(chart)[-1]):
                self.refused(BadSides, value, place_of, chart, value)
                self.refused(BadSides, value, place_of, sides=value, chart=chart)
                self.refused(BadSides, value, shows_place_of, chart, value, ("never", ()))
                self.refused(BadSides, value, shows_place_of, chart, value, None)


class Shown(Case):

    def test_the_paper_of_section_8(self):
        self.assertIs(shows_place_of(TRIANGLE, NEVER, ("never", PAPER)), True)
        self.assertIs(shows_place_of(value=("never", PAPER), sides=NEVER, chart=TRIANGLE), True)
        self.assertIs(shows_place_of(TRIANGLE, NEVER, ("never", ((0, -7), (1, 7), (2, -7)))), True)
        self.assertIs(shows_place_of(TRIANGLE, NEVER, ("never", tuple((k, w * 10 ** 30) for k, w in PAPER))), True)
        self.assertIs(shows_place_of(TRIANGLE, (0, 0, 0), ("never", PAPER)), True)
        self.assertIs(shows_place_of(TRIANGLE, (-1, 0, 0), ("never", PAPER)), True)

    def test_other_papers_are_none(self):
        for paper in [
            (), [*PAPER], tuple([*entry] for entry in PAPER), PAPER[::-1], PAPER[:2], PAPER[1:], PAPER + PAPER, PAPER + ((3, 1),),
            PAPER + ((2, -1),), ((0, -1), (0, -1), (1, 2), (2, -2)), ((0, -1), (1, 1), (2, 0)), ((0, 1), (1, -1), (2, 1)),
            ((0, -1), (1, 1), (2, 1)), ((0, -1), (1, 2), (2, -1)), ((0, -2), (1, 1), (2, -1)), ((0, -1), (True, 1), (2, -1)),
            ((0, -1), (1, True), (2, -1)), ((False, -1), (1, 1), (2, -1)), ((0, -1), (1, Ratio(1)), (2, -1)), ((0, -1, 0),) + PAPER[1:],
            ((-3, -1), (-2, 1), (-1, -1)), ((0,), (1,), (2,)), ((0, -1), (1, 1), (2,)), (0, -1, 1, 1, 2, -1), (PAPER,), "",
            {0: -1, 1: 1, 2: -1}, None, ((0, -1), None, (2, -1)), ((0, -1), (1, 1), (1, 1), (2, -1)), ((0, "-1"), (1, 1), (2, -1)),
        ]:
            self.assertIs(shows_place_of(TRIANGLE, NEVER, ("never", paper)), False, paper)

    def test_no_weight_is_0(self):
        for marks in [plain.SQUARE, plain.FIVE]:
            chart = plain.chart_of(marks)
            for asked in sides_everywhere(marks, 9):
                word, paper = place_of(chart, asked)
                for number in range(len(asked)) if word == "never" else []:
                    if number not in dict(paper):
                        more = tuple(sorted((*paper, (number, 0))))
                        self.assertIs(shows_place_of(chart, asked, ("never", more)), False)

    def test_a_sum_that_is_just_above_or_below_0(self):
        # The heights are y, -x and 1 - x - y.
        unit = plain.chart_of({"a": (0, 0), "b": (1, 0), "c": (0, 1)})
        self.assertIs(shows_place_of(unit, (1, -1, 1), ("never", ((0, 1), (1, -1), (2, 1)))), False)
        self.assertIs(shows_place_of(unit, (-1, 1, -1), ("never", ((0, -1), (1, 1), (2, -1)))), True)

    def test_a_paper_for_other_sides(self):
        for asked in sides_everywhere(plain.TRIANGLE):
            wanted = all(side in (0, own) for side, own in zip(asked, NEVER))
            self.assertIs(shows_place_of(TRIANGLE, asked, ("never", PAPER)), wanted, asked)
            self.assertIs(shows_place_of(TRIANGLE, asked, ("never", ((0, 1), (1, -1), (2, 1)))), False, asked)

    def test_papers_of_lines_through_one_point(self):
        # The sum is 0 everywhere: that shows nothing if all sides of these pairs are 0.
        hexagon, middle = plain.chart_of(plain.HEXAGON), plain.sides(plain.HEXAGON, (0, 0))
        numbers = [hexagon.pairs.index(pair) for pair in [("a", "d"), ("b", "e"), ("c", "f")]]
        lines = [plain.lines_of(plain.HEXAGON)[number] for number in numbers]
        found = [some for some in itertools.product(range(-4, 5), repeat=3)
                 if 0 not in some and plain.adds_up([(*line, weight) for line, weight in zip(lines, some)]) == 0]
        self.assertGreater(len(found), 1)
        for some in found:
            paper = tuple(zip(numbers, some))
            self.assertIs(shows_place_of(hexagon, middle, ("never", paper)), False)
            for number, weight in paper:
                for side in (1, -1):
                    asked = middle[:number] + (side,) + middle[number + 1:]
                    self.assertIs(shows_place_of(hexagon, asked, ("never", paper)), side == plain.sign(weight))

    def test_papers_of_more_lines(self):
        # The sum of two papers for the same sides is one, too, as long as no weight becomes 0.
        for marks in [plain.SQUARE, plain.INNER, plain.FIVE, plain.SEVEN]:
            chart, lengths = plain.chart_of(marks), set()
            for asked in sides_everywhere(marks, 20):
                papers = list(itertools.islice(papers_of_three(marks, asked), 4))
                for one, other in itertools.combinations(papers, 2):
                    weights = dict(one)
                    for number, weight in other:
                        weights[number] = weights.get(number, 0) + 3 * weight
                    paper = tuple(sorted((number, weight) for number, weight in weights.items() if weight != 0))
                    self.assertIs(shows_place_of(chart, asked, ("never", paper)), True)
                    self.assertIs(shows_place_of(chart, asked, ("never", paper[:-1])), False)
                    lengths.add(len(paper))
            self.assertGreater(max(lengths), 3)

    def test_places_by_any_hand(self):
        for marks in plain.SMALL:
            chart = plain.chart_of(marks)
            for at in plain.places_everywhere(marks):
                told = ("place", plain.point(at))
                self.assertIs(shows_place_of(chart, plain.sides(marks, at), told), True)
                for asked in plain.cells(marks)[::5]:
                    self.assertIs(shows_place_of(chart, asked, told), asked == plain.sides(marks, at))

    def test_one_part_otherwise(self):
        for marks in [plain.TRIANGLE, plain.SQUARE, plain.FIVE]:
            chart = plain.chart_of(marks)
            some = [*plain.cells(marks)[::9], *[plain.sides(marks, at) for at in marks.values()], *sides_everywhere(marks, 4)]
            for asked in some:
                told = place_of(chart, asked)
                self.assertIs(shows_place_of(chart, asked, told), True)
                for value in shapes_of(told):
                    self.assertIs(shows_place_of(chart, asked, value), plain.is_place_of(marks, asked, value), (asked, value))

    def test_values_of_any_kind(self):
        for asked in [NEVER, (0, 0, 1), (1, -1, 1)]:
            for value in values_of_all_classes() + [("never",), ("never", PAPER, 1), ["never", PAPER], "never", ("place", (1, 1)),
                                                    ("place", "1 1"), ("mark", Point(0, 0)), ("mark", None), ("mark", ["a"]), nested(30),
                                                    ("mark", nested(28)), ("Never", PAPER), (None, PAPER), ("other", "a"), ("", "")]:
                self.assertIs(shows_place_of(TRIANGLE, asked, value), plain.is_place_of(plain.TRIANGLE, asked, value), value)


class Neighbours(Case):

    def test_triangle(self):
        for cell, wanted in [
            ((1, -1, 1), ((0, -1, 1), (1, -1, 0), (1, 0, 1))), ((0, -1, 1), ((-1, -1, 1), (1, -1, 1))),
            ((-1, 1, 1), ((-1, 0, 1), (0, 1, 1))), ((0, -1, -1), ((-1, -1, -1), (1, -1, -1))),
            ((-1, -1, 1), ((-1, -1, 0), (-1, 0, 1), (0, -1, 1))), ((1, 0, -1), ((1, -1, -1), (1, 1, -1))),
        ]:
            self.assertTrue(is_same(next_to(TRIANGLE, cell), wanted))
        self.assertEqual(next_to(cell=(0, -1, 1), chart=TRIANGLE), ((-1, -1, 1), (1, -1, 1)))

    def test_around_a_crossing(self):
        square = plain.chart_of(plain.SQUARE)
        middle = plain.sides(plain.SQUARE, (2, 2))
        around = [(1, 1), (3, 1), (3, 3), (1, 3), (2, 1), (3, 2), (2, 3), (1, 2)]
        self.assertEqual(next_to(square, middle), tuple(sorted(plain.sides(plain.SQUARE, at) for at in around)))
        inner = plain.sides(plain.SQUARE, (2, 1))
        wanted = [plain.sides(plain.SQUARE, at) for at in [(2, 0), (1, 1), (3, 1), (2, 2)]]
        self.assertEqual(next_to(square, inner), tuple(sorted(wanted)))

    def test_all_of_them(self):
        for marks in plain.SMALL + [plain.HOUSE]:
            chart, some = plain.chart_of(marks), plain.cells(marks)
            for cell in some:
                self.assertTrue(is_same(next_to(chart, cell), tuple(other for other in some if plain.touch(cell, other))))

    def test_some_of_many(self):
        for marks in plain.LARGE:
            chart, some = plain.chart_of(marks), plain.cells(marks)
            for cell in some[::23]:
                self.assertEqual(next_to(chart, cell), tuple(other for other in some if plain.touch(cell, other)))

    def test_no_cell(self):
        for marks in [plain.TRIANGLE, plain.SQUARE, plain.SEVEN]:
            chart, some = plain.chart_of(marks), set(plain.cells(marks))
            for value in no_sides(cells(chart)[3]) + [plain.sides(marks, at) for at in marks.values()]:
                self.refused(NoCell, value, next_to, chart, value)
            for value in sides_everywhere(marks, 20):
                if value not in some:
                    self.refused(NoCell, value, next_to, chart, cell=value)


class Pieces(Case):

    def test_triangle(self):
        whole = cells(TRIANGLE)
        self.assertEqual(pieces(TRIANGLE, whole), (whole,))
        self.assertTrue(is_same(pieces(TRIANGLE, ()), ()))
        self.assertTrue(is_same(pieces(TRIANGLE, ((1, -1, 1),)), (((1, -1, 1),),)))
        behind = ((-1, -1, -1), (-1, 1, 1), (1, 1, -1))
        self.assertTrue(is_same(pieces(TRIANGLE, behind), tuple((cell,) for cell in behind)))
        within = ((-1, -1, 1), (0, -1, 1), (1, -1, 1), (1, 1, 1))
        self.assertTrue(is_same(pieces(TRIANGLE, within), (within[:3], within[3:])))
        self.assertEqual(pieces(some=within, chart=TRIANGLE), (within[:3], within[3:]))

    def test_cells_of_all_kinds(self):
        told = random.Random(11)
        for marks in plain.SMALL + plain.MIDDLE:
            chart, some = plain.chart_of(marks), plain.cells(marks)
            for many in [2, 5, 9, len(some) // 2, len(some) * 3 // 4]:
                for _ in range(6):
                    chosen = tuple(sorted(told.sample(some, many)))
                    self.assertTrue(is_same(pieces(chart, chosen), plain.pieces(chosen)))

    def test_without_side_0_nothing_touches(self):
        for marks in [plain.TRIANGLE, plain.SEVEN]:
            chart = plain.chart_of(marks)
            faces = tuple(cell for cell in cells(chart) if 0 not in cell)
            self.assertEqual(pieces(chart, faces), tuple((cell,) for cell in faces))
            self.assertEqual(pieces(chart, cells(chart)), (cells(chart),))

    def test_bad_cells(self):
        for marks in [plain.TRIANGLE, plain.SQUARE, plain.SEVEN]:
            chart = plain.chart_of(marks)
            first, second, third = cells(chart)[:3]
            mark = plain.sides(marks, marks["a"])
            for value in [
                [first], [first, second], (second, first), (first, first), (first, third, second), (first, second, second), first,
                (list(first),), (first, list(second)), (first[:-1],), (first + (0,),), tuple(sorted((first, mark))), (mark,), (first, None),
                (first, 1), ((),), ((first,),), ((first, second),), (tuple(bool(side) for side in first),), {first: second}, [], {}, "", None,
                ((True,) + cells(chart)[-1][1:],), (first, nested(29)), nested(30),
                *[value for value in values_of_all_classes() if value != () and not is_same(value, ((1, -1, 1),))],
            ]:
                self.refused(BadCells, value, pieces, chart, value)
                self.refused(BadCells, value, pieces, some=value, chart=chart)


class ManyTimes(Case):

    def test_seven_marks_many_times_in_a_row(self):
        chart = plain.chart_of(plain.SEVEN)
        for _ in range(3):
            self.assertEqual(len(cells(chart)), 540)
            for cell in cells(chart):
                self.assertIs(shows_place_of(chart, cell, place_of(chart, cell)), True)
                self.assertIn(cell, next_to(chart, next_to(chart, cell)[0]))
            self.assertEqual(pieces(chart, cells(chart)), (cells(chart),))


if __name__ == "__main__":
    unittest.main()
