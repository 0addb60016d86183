"""Point 12, and what points 2 and 3 say of it."""

import itertools
import random
import unittest

from seenabout.errors import BadLog
from seenabout.logs import began, coming, known, now
from seenabout.seeing import rounds, where
from seenabout.sights import about, sides
from seenabout.ways import seen_on
from tests import plain
from tests.test_seeing import some_rounds, wrong_rounds
from tests.test_ways import ways_of
from tests.wrong import Case, is_same, nested, values_of_all_classes

ABC, ACB, CORNER = (("a",), ("b",), ("c",)), (("a",), ("c",), ("b",)), (("a", "c"), ("b",))
TRIANGLE = plain.chart_of(plain.TRIANGLE)
CALLS = [began, now, coming, known]


def rows(log):
    """The log without rounds that are like the one ahead."""
    return tuple(told for told, ahead in zip(log, (None, *log)) if told != ahead)


def drawn(marks, many, seed):
    """(start, goal, log) of ways through some places, drawn as they come, over no mark."""
    told, places = random.Random(seed), [at for ends in ways_of(marks, 40, seed) for at in ends]
    chart = plain.chart_of(marks)
    for _ in range(many):
        stops = [told.choice(places)]
        log = ()
        for _ in range(told.randint(1, 4)):
            goal = told.choice(places)
            if goal != stops[-1] and not plain.marks_on_way(marks, stops[-1], goal):
                further = rows(log + seen_on(chart, plain.point(stops[-1]), plain.point(goal)))
                if len(further) <= 20:
                    log = further
                    stops.append(goal)
        if log:
            yield stops[0], stops[-1], log


class Told(Case):

    def right(self, chart, marks, log):
        """All that is told of a log is what the document's words make of it; the cells at the end."""
        begun, here = plain.on_logs(marks, log)
        self.assertTrue(is_same(began(chart, log), begun), (marks, log))
        self.assertTrue(is_same(now(chart, log), here), (marks, log))
        seen, near = plain.seen_by_cell(tuple(marks.items())), plain.touching(tuple(marks.items()))
        further = {seen[other] for cell in here for other in near[cell]} - {log[-1]}
        self.assertTrue(is_same(coming(chart, log), tuple(sorted(further))), (marks, log))
        sure = tuple(column[0] if len(set(column)) == 1 else None for column in zip(*here)) if here else None
        self.assertTrue(is_same(known(chart, log), sure), (marks, log))
        return here

    def test_triangle(self):
        log = (ABC, CORNER, ACB)
        self.assertEqual(len(began(TRIANGLE, log)), 7)
        self.assertTrue(is_same(now(TRIANGLE, log), ((-1, 1, 1), (1, 1, -1))))
        self.assertTrue(is_same(known(TRIANGLE, (CORNER,)), (None, 0, None)))
        self.assertTrue(is_same(known(TRIANGLE, log), (None, 1, None)))
        self.assertTrue(is_same(coming(TRIANGLE, (ACB,)), tuple(sorted([(("a", "b"), ("c",)), CORNER, (("a",), ("b", "c"))]))))
        for call in CALLS:
            self.assertEqual(call(log=log, chart=TRIANGLE), call(TRIANGLE, log))

    def test_one_round(self):
        for marks in plain.SMALL + plain.MIDDLE:
            chart = plain.chart_of(marks)
            for seen in rounds(chart):
                self.assertEqual(self.right(chart, marks, (seen,)), where(chart, seen))
                self.assertEqual(began(chart, (seen,)), where(chart, seen))

    def test_all_short_logs(self):
        for marks in [plain.TRIANGLE, plain.SLANT]:
            chart = plain.chart_of(marks)
            for many in (2, 3):
                for log in itertools.product(rounds(chart), repeat=many):
                    if rows(log) == log:
                        self.right(chart, marks, log)

    def test_logs_of_drawn_ways(self):
        for marks in plain.SMALL + plain.MIDDLE:
            chart = plain.chart_of(marks)
            for start, goal, log in drawn(marks, 25, 3):
                here = self.right(chart, marks, log)
                self.assertIn(plain.sides(marks, goal), here)
                self.assertIn(plain.sides(marks, start), began(chart, log))

    def test_logs_of_drawn_ways_with_seven_marks(self):
        for marks in plain.LARGE:
            chart = plain.chart_of(marks)
            for number, (start, goal, log) in enumerate(drawn(marks, 12, 5)):
                self.assertIn(plain.sides(marks, goal), now(chart, log))
                self.assertIn(plain.sides(marks, start), began(chart, log))
                if number < 3:
                    self.right(chart, marks, log)

    def test_what_comes_next(self):
        for marks in [plain.SQUARE, plain.FIVE, plain.SEVEN_FLAT]:
            chart = plain.chart_of(marks)
            for start, goal, log in drawn(marks, 15, 8):
                if len(log) > 1:
                    self.assertIn(log[-1], coming(chart, log[:-1]))
                further = coming(chart, log)
                for seen in rounds(chart)[::7] + further[:3]:
                    if len(log) < 20 and seen != log[-1]:
                        self.assertEqual(now(chart, log + (seen,)) != (), seen in further)

    def test_no_way_has_this_log(self):
        nowhere = [(ABC, (("a", "b", "c"),)), ((("a", "b", "c"),), ABC), ((("a", "b", "c"),),), (ABC, ACB), (CORNER, (("a", "b"), ("c",)))]
        for log in nowhere:
            for call in CALLS[:3]:
                self.assertTrue(is_same(call(TRIANGLE, log), ()))
            self.assertIsNone(known(TRIANGLE, log))
        for marks in [plain.SQUARE, plain.FIVE]:
            chart, told = plain.chart_of(marks), random.Random(12)
            for _ in range(30):
                log = rows(tuple(some_rounds(list(marks), told.randint(1, 4), told)))
                self.right(chart, marks, log)

    def test_twenty_rounds(self):
        log = (ABC, CORNER, ACB, CORNER) * 5
        self.assertEqual(len(log), 20)
        self.assertEqual(len(self.right(TRIANGLE, plain.TRIANGLE, log)), 2)
        self.right(TRIANGLE, plain.TRIANGLE, log[1:] + (ABC,))
        # One round among them that cannot be written behind the one ahead: no way is left.
        self.assertEqual(now(TRIANGLE, log[:9] + (ACB, ABC) + log[11:]), ())

    def test_known(self):
        for marks in [plain.SQUARE, plain.INNER]:
            chart = plain.chart_of(marks)
            for start, goal, log in drawn(marks, 25, 14):
                for side, own in zip(known(chart, log), plain.sides(marks, goal)):
                    self.assertIn(side, (None, own))
                    self.assertIn(type(side), (int, type(None)))

    def test_from_one_cell_to_touching_ones(self):
        # Whoever sees b and c in one line, and then a, c, b, has not gone around the marks unseen.
        log = ((("a",), ("b", "c")), ACB, CORNER)
        self.right(TRIANGLE, plain.TRIANGLE, log)
        self.assertEqual(began(TRIANGLE, log), ((1, 1, 0),))
        self.assertEqual(now(TRIANGLE, log), ((1, 0, -1),))

    def test_at_the_end_one_may_have_gone_on_unseen(self):
        # Beyond the line of a and b, then over it between both: the round is the same all the time.
        log = (ACB, (("a", "b"), ("c",)), ABC)
        here = now(TRIANGLE, log)
        self.assertIn((0, -1, 1), here)
        self.assertEqual(here, where(TRIANGLE, ABC))

    def test_about_and_sides_of_a_walk(self):
        chart, way = plain.chart_of(plain.FIVE), [plain.point(at) for at in [(1, 1), (9, 2), (9, -7), (-5, -4)]]
        log = rows(tuple(seen for one, other in zip(way, way[1:]) for seen in seen_on(chart, one, other)))
        self.assertEqual((log[0], log[-1]), (about(chart, way[0]), about(chart, way[-1])))
        self.assertIn(sides(chart, way[0]), began(chart, log[:20]))
        self.assertIn(sides(chart, way[-1]), now(chart, log[-20:]))


class Refused(Case):

    def refused_by_all(self, chart, value):
        for call in CALLS:
            self.refused(BadLog, value, call, chart, value)

    def test_no_tuple_of_rounds(self):
        for value in values_of_all_classes() + [[ABC], [ABC, ACB], ABC, (list(ABC),), ([ABC],), {ABC: 1}, (ABC, None), (None, ABC), (ABC, ()), nested(30),
                                                (ABC, nested(29)), "a b c", (ABC, "a b c"), ((ABC,),), (ABC, (ACB,)), (ABC, 1), (True,)]:
            self.refused_by_all(TRIANGLE, value)
            self.refused(BadLog, value, began, log=value, chart=TRIANGLE)

    def test_empty_and_too_long(self):
        self.refused_by_all(TRIANGLE, ())
        long = (ABC, CORNER, ACB, CORNER) * 5 + (ABC,)
        self.assertEqual(len(long), 21)
        self.refused_by_all(TRIANGLE, long)
        self.refused_by_all(TRIANGLE, long * 9)

    def test_the_same_round_twice_in_a_row(self):
        same = tuple(tuple(list(group)) for group in ABC)
        for log in [(ABC, ABC), (ABC, same), (ACB, ABC, same), (ABC, same, ACB), (CORNER, ABC, CORNER, CORNER), (ABC,) * 20]:
            self.refused_by_all(TRIANGLE, log)
        self.assertEqual(now(TRIANGLE, (ABC, CORNER, ABC)), where(TRIANGLE, ABC))

    def test_what_is_no_round(self):
        for marks in [plain.TRIANGLE, plain.SEVEN]:
            chart, seen = plain.chart_of(marks), tuple((name,) for name in marks)
            for value in wrong_rounds(chart.names):
                if len(marks) == 3 or not is_same(value, ABC):
                    self.refused_by_all(chart, (value,))
                    self.refused_by_all(chart, (seen, value))
                    self.refused_by_all(chart, (value, seen, (tuple(marks),)))

    def test_rounds_of_some_marks(self):
        chart = plain.chart_of(plain.SQUARE)
        self.refused_by_all(chart, (ABC,))
        self.refused_by_all(chart, ((("b",), ("c",), ("d",)),))
        self.refused_by_all(TRIANGLE, ((("a",), ("b",), ("c",), ("d",)),))

    def test_nothing_changes(self):
        log = (ABC, CORNER)
        first = [call(TRIANGLE, log) for call in CALLS]
        self.assertEqual([call(TRIANGLE, log) for call in CALLS], first)
        self.assertEqual((log, TRIANGLE.text), ((ABC, CORNER), plain.text_of(plain.TRIANGLE)))


if __name__ == "__main__":
    unittest.main()
