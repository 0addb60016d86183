"""Point 15 as far as one chart is asked, and what points 2, 3 and 9 say of it."""

import itertools
import random
import unittest

from seenabout.errors import BadAsk, BadLand, BadNames
from seenabout.lands import Land
from seenabout.looks import fewest_marks, mixed, shows_mixed
from seenabout.points import Point
from seenabout.ratios import Ratio
from tests import plain
from tests.wrong import Case, is_same, shapes_of, values_of_all_classes

TRIANGLE = plain.chart_of(plain.TRIANGLE)
FIVE = plain.chart_of(plain.FIVE)
PATCH = ((1, 1), (5, 1), (1, 5))
# Across the line of a and b between them, beyond them, with an edge on it, with a mark within, with one at a corner.
LANDS = [None, PATCH, ((1, -1), (3, -1), (3, 1), (1, 1)), ((5, -1), (8, -1), (8, 1), (5, 1)), ((1, 0), (3, 0), (2, 3)), ((5, 0), (9, 0), (7, 2)),
         ((-2, -2), (3, -1), (2, 3)), ((0, 0), (3, 1), (1, 3)), ((0, 0), (3, -1), (3, 1)), ((5, -3), (8, -3), (8, 1), (5, 1))]
SMALL = [plain.TRIANGLE, plain.SLANT, plain.SQUARE, plain.INNER]


def land_of(corners):
    return plain.land_of(corners)


def choices(names):
    return [some for many in range(3, len(names) + 1) for some in itertools.combinations(names, many)]


def asks(marks):
    return list(itertools.permutations(marks, 2))


class Mixed(Case):

    def right(self, chart, marks, ask, corners, among):
        told = mixed(chart, ask, land=land_of(corners), among=among)
        self.assertTrue(plain.is_mixed(marks, ask, told, corners, among), (marks, ask, corners, among, told))
        self.assertIs(shows_mixed(chart, ask, told, land=land_of(corners), among=among), True)
        if told is not None:
            self.assertIs(shows_mixed(chart, ask, told[::-1], land=land_of(corners), among=among), True)
            self.assertIs(shows_mixed(chart, ask, None, land=land_of(corners), among=among), False)
        return told

    def test_example(self):
        self.assertIsNone(mixed(TRIANGLE, ("a", "b"), land=Land(PATCH)))
        self.assertIsNone(mixed(among=None, land=Land(PATCH), ask=("a", "b"), chart=TRIANGLE))
        self.assertIsNotNone(mixed(TRIANGLE, ("a", "b")))

    def test_asks_both_ways_about(self):
        for marks in SMALL + [plain.FIVE]:
            chart = plain.chart_of(marks)
            for ask, corners in itertools.product(asks(marks), LANDS):
                told = self.right(chart, marks, ask, corners, None)
                self.assertEqual(told is None, self.right(chart, marks, ask[::-1], corners, None) is None)

    def test_some_marks(self):
        for marks in [plain.SQUARE, plain.INNER, plain.FIVE]:
            chart = plain.chart_of(marks)
            for ask, corners, among in itertools.product(asks(marks)[::3], LANDS, choices(tuple(marks))):
                self.right(chart, marks, ask, corners, among)

    def test_seven_marks(self):
        told = random.Random(4)
        for marks in [plain.SEVEN, plain.SEVEN_FLAT, plain.HEXAGON]:
            chart = plain.chart_of(marks)
            for corners in [LANDS[0], *told.sample(LANDS[1:], 3)]:
                for ask, among in zip(told.sample(asks(marks), 6), [None] + told.sample(choices(tuple(marks)), 5)):
                    self.right(chart, marks, ask, corners, among)

    def test_across_the_line(self):
        between, beyond, edge, far_edge = [land_of(corners) for corners in LANDS[2:6]]
        # Between both marks nothing changes; beyond them both are seen in one line, or exchanged.
        self.assertIsNotNone(mixed(TRIANGLE, ("a", "b"), land=between))
        self.assertIsNone(mixed(TRIANGLE, ("a", "b"), land=beyond))
        # On the line is an answer of its own.
        self.assertIsNotNone(mixed(TRIANGLE, ("a", "b"), land=edge))
        self.assertIsNone(mixed(TRIANGLE, ("a", "b"), land=far_edge))
        answers = {plain.sign(plain.height((0, 0), (4, 0), plain.place(point))) for point in mixed(TRIANGLE, ("a", "b"), land=edge)}
        self.assertEqual(answers, {0, 1})

    def test_marks_are_no_places(self):
        # Only the mark itself of this land is on the line.
        land = ((0, 0), (3, 1), (1, 3))
        self.assertTrue(plain.settles(plain.TRIANGLE, ("a", "b"), land))
        self.assertIsNone(mixed(TRIANGLE, ("a", "b"), land=Land(land)))
        self.assertIs(shows_mixed(TRIANGLE, ("a", "b"), (Point(0, 0), Point(2, 2)), land=Land(land)), False)
        self.assertIs(shows_mixed(TRIANGLE, ("a", "b"), (Point(2, 2), Point(0, 0)), land=Land(land)), False)

    def test_places_by_any_hand(self):
        told = random.Random(9)
        for marks in [plain.TRIANGLE, plain.SQUARE, plain.FIVE]:
            chart = plain.chart_of(marks)
            places = plain.places_everywhere(marks)
            for _ in range(250):
                corners, among = told.choice(LANDS), told.choice([None, *choices(tuple(marks))])
                ask, value = told.choice(asks(marks)), tuple(plain.point(at) for at in told.sample(places, 2))
                wanted = plain.is_mixed(marks, ask, value, corners, among)
                self.assertIs(shows_mixed(chart, ask, value, land=land_of(corners), among=among), wanted)
        self.assertIs(shows_mixed(among=("a", "b", "c"), land=None, value=(Point(1, 1), Point(1, -1)), ask=("b", "a"), chart=FIVE),
                      plain.is_mixed(plain.FIVE, ("b", "a"), (Point(1, 1), Point(1, -1)), None, ("a", "b", "c")))

    def test_bent_at_any_depth(self):
        for marks, ask, corners, among in [(plain.TRIANGLE, ("a", "b"), None, None), (plain.TRIANGLE, ("b", "a"), PATCH, None), (plain.FIVE, ("d", "b"), LANDS[2], ("a", "c", "e")),
                                           (plain.FIVE, ("a", "b"), LANDS[3], ("a", "b", "c"))]:
            chart = plain.chart_of(marks)
            answer = mixed(chart, ask, land=land_of(corners), among=among)
            for value in [*shapes_of(answer), *values_of_all_classes(), ("mixed", answer), (answer, answer)]:
                self.assertIs(shows_mixed(chart, ask, value, land=land_of(corners), among=among), plain.is_mixed(marks, ask, value, corners, among), (ask, value))


class Fewest(Case):

    def right(self, chart, marks, ask, corners):
        """What is told is the first choice that settles it, with a right reason for each one ahead."""
        told = fewest_marks(chart, ask, land=land_of(corners))
        first = [names for names in choices(tuple(marks)) if plain.settles(marks, ask, corners, names)][:1]
        ahead = choices(tuple(marks))
        if first:
            self.assertTrue(is_same(told[:2], ("marks", first[0])), (marks, ask, corners, told))
            ahead = ahead[:ahead.index(first[0])]
        else:
            self.assertTrue(is_same(told[:1], ("none",)), (marks, ask, corners))
        self.assertEqual((type(told), len(told), type(told[-1])), (tuple, 3 if first else 2, tuple))
        self.assertTrue(is_same(tuple(reason[0] for reason in told[-1]), tuple(ahead)))
        for names, *places in told[-1]:
            self.assertTrue(plain.is_mixed(marks, ask, tuple(places), corners, names))
            self.assertIs(shows_mixed(chart, ask, tuple(places), land=land_of(corners), among=names), True)
        return told

    def test_example(self):
        told = fewest_marks(TRIANGLE, ("a", "b"))
        self.assertEqual((told[0], len(told), len(told[1]), told[1][0][0]), ("none", 2, 1, ("a", "b", "c")))
        self.assertEqual(fewest_marks(land=None, ask=("a", "b"), chart=TRIANGLE), told)

    def test_all_asks(self):
        words = set()
        for marks in SMALL + [plain.FIVE, plain.HOUSE]:
            chart = plain.chart_of(marks)
            for ask, corners in itertools.product(asks(marks)[::2], LANDS):
                told = self.right(chart, marks, ask, corners)
                words.add((told[0], len(told[1]) if told[0] == "marks" else 0))
        self.assertTrue({("none", 0), ("marks", 3)} <= words, words)

    def test_by_hand(self):
        for marks, ask, corners, names in [
                (plain.SQUARE, ("d", "c"), ((10, -2), (2, 1), (0, -5)), ("a", "b", "c")), (plain.SQUARE, ("d", "c"), ((7, 10), (5, 12), (5, 5), (8, -1)), ("b", "c", "d")),
                (plain.SQUARE, ("b", "a"), ((-6, 10), (11, -2), (4, 11)), ("a", "b", "c", "d")),
                (plain.HOUSE, ("d", "b"), ((-1, 4), (1, 12), (-6, -5)), ("a", "b", "c", "d", "top"))]:
            self.assertEqual(self.right(plain.chart_of(marks), marks, ask, corners)[1], names)

    def test_seven_marks(self):
        told = random.Random(6)
        for marks in [plain.SEVEN, plain.SEVEN_FLAT, plain.HEXAGON]:
            chart = plain.chart_of(marks)
            for ask, corners in zip(told.sample(asks(marks), 3), [LANDS[3], LANDS[9], None]):
                self.right(chart, marks, ask, corners)

    def test_in_the_whole_plane_none_settles_it(self):
        # Who crosses the line between both marks sees no change.
        for marks in [plain.TRIANGLE, plain.SQUARE, plain.SEVEN]:
            chart = plain.chart_of(marks)
            told = fewest_marks(chart, tuple(marks)[:2])
            self.assertEqual((told[0], len(told[1])), ("none", len(choices(tuple(marks)))))


class Refused(Case):

    def wrong_asks(self):
        return [*values_of_all_classes(), ("a", "a"), ("a", "x"), ("x", "a"), ("a",), ("a", "b", "c"), ["a", "b"], ("a", ["b"]), ("a", None), (None, "b"), ("a", 1),
                "ab", ("A", "b"), ("a", ("b",)), {"a": "b"}, (("a", "b"),), ("a ", "b"), (True, False), ("a", Point(0, 0)), ("", "a")]

    def calls(self):
        return [(mixed, ()), (fewest_marks, ()), (shows_mixed, (None,))]

    def test_asks(self):
        for value in self.wrong_asks():
            for call, more in self.calls():
                self.refused(BadAsk, value, call, TRIANGLE, value, *more)
                # Ahead of what is wrong of the others.
                self.refused(BadAsk, value, call, TRIANGLE, value, *more, land=7)
            self.refused(BadAsk, value, mixed, TRIANGLE, value, land=7, among=7)
            self.refused(BadAsk, value, shows_mixed, TRIANGLE, value, 7, among=7, land=7)
            self.refused(BadAsk, value, fewest_marks, land=7, ask=value, chart=TRIANGLE)

    def test_lands(self):
        for value in values_of_all_classes() + [PATCH, Ratio(1)]:
            if value is not None and type(value) is not Land:
                for call, more in self.calls():
                    self.refused(BadLand, value, call, TRIANGLE, ("a", "b"), *more, land=value)
                self.refused(BadLand, value, mixed, TRIANGLE, ("b", "a"), land=value, among=7)
                self.refused(BadLand, value, shows_mixed, TRIANGLE, ("b", "a"), None, land=value, among=())

    def test_names(self):
        for value in values_of_all_classes() + [("a", "b"), ("a", "c", "b"), ("a", "b", "b"), ("a", "b", "x"), ["a", "b", "c"], ("a", "b", "c", "c"), "abc"]:
            if value is not None and value != ("a", "b", "c"):
                self.refused(BadNames, value, mixed, TRIANGLE, ("a", "b"), among=value)
                self.refused(BadNames, value, shows_mixed, TRIANGLE, ("a", "b"), None, among=value, land=Land(PATCH))

    def test_by_names_alone(self):
        with self.assertRaises(TypeError):
            mixed(TRIANGLE, ("a", "b"), None)
        with self.assertRaises(TypeError):
            fewest_marks(TRIANGLE, ("a", "b"), None)
        with self.assertRaises(TypeError):
            shows_mixed(TRIANGLE, ("a", "b"), None, None)

    def test_nothing_changes(self):
        first = mixed(FIVE, ("a", "d")), fewest_marks(FIVE, ("a", "d"), land=Land(PATCH))
        self.assertTrue(is_same((mixed(FIVE, ("a", "d")), fewest_marks(FIVE, ("a", "d"), land=Land(PATCH))), first))
        self.assertEqual(FIVE.text, plain.text_of(plain.FIVE))


if __name__ == "__main__":
    unittest.main()
