"""Point 3: moved, stretched and turned-over charts, and fewer marks."""

import functools
import itertools
import unittest
from fractions import Fraction

from seenabout.cells import cells, next_to, pieces, place_of, shows_place_of
from seenabout.comparing import apart
from seenabout.lands import Land
from seenabout.laps import Lap
from seenabout.logs import began, coming, known, now
from seenabout.looks import fewest_marks, mixed, shows_mixed
from seenabout.scripts import Script, ends, failing, leads, shows_leads, walked
from seenabout.seeing import rounds, seen_from, shows_seen_from, where
from seenabout.sights import about, sides
from seenabout.ways import crossed, fewest, seen_on, shows_fewest
from tests import plain, walks
from tests.test_ways import ways_of

CHARTS = [plain.TRIANGLE, plain.SLANT, plain.SQUARE, plain.INNER, plain.HOUSE, plain.SEVEN]
LANDS = [((-3, -2), (7, -4), (9, 5), (0, 8)), ((1, 1), (5, 1), (1, 5)), ((-20, 0), (4, -1), (30, 20))]
KINDS = {
    "moved": lambda x, y: (x + 17, y - 40),
    "moved far": lambda x, y: (x - 300, y + 501),
    "stretched": lambda x, y: (x * 3, y * 7),
    "stretched and moved": lambda x, y: (x * 9 + 5, y * 2 - 8),
}


def changed(marks, kind):
    return {name: kind(x, y) for name, (x, y) in marks.items()}


def turned_over(marks):
    return {name: (y, x) for name, (x, y) in marks.items()}


def other_signs(cell):
    return tuple(-side for side in cell)


def other_way_about(seen):
    return seen[:1] + seen[:0:-1]


def some_places(marks):
    return plain.places_everywhere(marks)[::7]


def some_scripts(marks, many):
    """Scripts that are drawn as they come, some of them done from many places."""
    for number, told in enumerate(walks.seeds(many)):
        make = walks.drawn_script if number % 4 == 0 else walks.led_script
        yield Script(walks.text_of(make(marks, [1, 2, 3, 5, 12][number % 5], told)))


@functools.lru_cache(maxsize=None)
def some_laps(items):
    """Scripts that are laps, most of them done from some share; three marks have none."""
    marks = dict(items)
    rows = [walks.drawn_lap(marks, many, told) for told, many in zip(walks.seeds(6), (2, 3, 4, 6, 8, 12)) if len(marks) > 3]
    return [Script(walks.text_of(steps)) for steps in rows if steps is not None]


def moved_points(points, kind):
    return tuple(plain.point(kind(*plain.place(point))) for point in points)


class MovedAndStretched(unittest.TestCase):

    def all_kinds(self):
        for marks, (name, kind) in itertools.product(CHARTS, KINDS.items()):
            with self.subTest(name, marks=marks):
                yield marks, kind, plain.chart_of(marks), plain.chart_of(changed(marks, kind))

    def test_sides_and_rounds(self):
        for marks, kind, chart, other in self.all_kinds():
            for at in some_places(marks):
                here, there = plain.point(at), plain.point(kind(*at))
                self.assertEqual(sides(chart, here), sides(other, there))
                self.assertEqual(about(chart, here), about(other, there))
                self.assertEqual(about(chart, here, among=chart.names[-3:]), about(other, there, among=chart.names[-3:]))

    def test_cells(self):
        for marks, kind, chart, other in self.all_kinds():
            self.assertEqual(cells(chart), cells(other))
            for cell in cells(chart)[::11]:
                self.assertEqual(next_to(chart, cell), next_to(other, cell))
                self.assertEqual(place_of(chart, cell)[0], place_of(other, cell)[0])
                self.assertEqual(place_of(chart, other_signs(cell))[0], place_of(other, other_signs(cell))[0])
                moved = plain.point(kind(*plain.place(place_of(chart, cell)[1])))
                self.assertIs(shows_place_of(other, cell, ("place", moved)), True)
            self.assertEqual(pieces(chart, cells(chart)[::3]), pieces(other, cells(chart)[::3]))

    def test_rounds(self):
        for marks, kind, chart, other in self.all_kinds():
            among = chart.names[-3:]
            self.assertEqual(rounds(chart), rounds(other))
            for corners in LANDS:
                land, moved = Land(corners), Land(tuple(kind(*corner) for corner in corners))
                self.assertEqual(rounds(chart, land=land), rounds(other, land=moved))
                self.assertEqual(rounds(chart, land=land, among=among), rounds(other, land=moved, among=among))
                for asked in rounds(chart)[::9]:
                    self.assertEqual(where(chart, asked), where(other, asked))
                    told = seen_from(chart, asked, land=land)
                    self.assertEqual(told[0], seen_from(other, asked, land=moved)[0])
                    if told[0] == "place":
                        at = kind(*plain.place(told[1]))
                        self.assertIs(shows_seen_from(other, asked, ("place", plain.point(at)), land=moved), True)

    def test_ways_and_logs(self):
        for marks, kind, chart, other in self.all_kinds():
            for ends in ways_of(marks, 12):
                here, there = [plain.point(at) for at in ends], [plain.point(kind(*at)) for at in ends]
                self.assertEqual(crossed(chart, *here), crossed(other, *there))
                log = seen_on(chart, *here)
                self.assertEqual(log, seen_on(other, *there))
                for call in [began, now, coming, known]:
                    self.assertEqual(call(chart, log[:20]), call(other, log[:20]))
                if 0 not in sides(chart, here[0]) + sides(chart, here[1]):
                    number, way, levels = fewest(chart, *here)
                    moved = tuple(plain.point(kind(*plain.place(stop))) for stop in way)
                    self.assertEqual(fewest(other, *there)[0], number)
                    self.assertIs(shows_fewest(other, *there, (number, moved, levels)), True)

    def test_scripts(self):
        for marks, kind, chart, other in self.all_kinds():
            for number, script in enumerate(some_scripts(marks, 8)):
                corners = LANDS[number % len(LANDS)]
                land, moved = Land(corners), Land(tuple(kind(*corner) for corner in corners))
                self.assertEqual(ends(chart, script, land), ends(other, script, moved))
                self.assertEqual(failing(chart, script, land), failing(other, script, moved))
                answer = leads(chart, script, land)
                if answer[0] == "not":
                    self.assertIs(shows_leads(other, script, moved, ("not", *moved_points(answer[1:], kind))), True)
                else:
                    self.assertEqual(leads(other, script, moved), answer)
                for corner in corners:
                    word, line, points = walked(chart, script, plain.point(corner))
                    self.assertEqual(walked(other, script, plain.point(kind(*corner))), (word, line, moved_points(points, kind)))

    def test_laps(self):
        for marks, kind, chart, other in self.all_kinds():
            for script in some_laps(tuple(marks.items())):
                lap, moved = Lap(chart, script), Lap(other, script)
                self.assertEqual((lap.table, lap.turns, lap.fixed, lap.pair), (moved.table, moved.turns, moved.fixed, moved.pair))
                self.assertEqual((lap.starts(), lap.starts(5)), (moved.starts(), moved.starts(5)))
                self.assertEqual([lap.led(share, 3) for share in (-2, 0, 1, 4)], [moved.led(share, 3) for share in (-2, 0, 1, 4)])

    def test_looks(self):
        for marks, kind, chart, other in self.all_kinds():
            self.assertEqual(apart(chart, other), ((), ()))
            for corners in [None, *LANDS]:
                land, moved = plain.land_of(corners), plain.land_of(corners and tuple(kind(*corner) for corner in corners))
                ask = tuple(marks)[:3:2]
                told = mixed(chart, ask, land=land)
                self.assertEqual(mixed(other, ask, land=moved) is None, told is None)
                if told is not None:
                    self.assertIs(shows_mixed(other, ask, moved_points(told, kind), land=moved), True)
                first, second = fewest_marks(chart, ask, land=land), fewest_marks(other, ask, land=moved)
                self.assertEqual((first[:-1], [reason[0] for reason in first[-1]]), (second[:-1], [reason[0] for reason in second[-1]]))

    def test_lands(self):
        for corners, kind in itertools.product(LANDS, KINDS.values()):
            land, moved = Land(corners), Land(tuple(kind(*corner) for corner in corners))
            for at in itertools.product(range(-4, 10), [Fraction(-7, 2), 0, 1, 2, Fraction(9, 2), 6]):
                self.assertIs(plain.point(at) in land, plain.point(kind(*at)) in moved)


class TurnedOver(unittest.TestCase):

    def test_sides_and_rounds(self):
        for marks in CHARTS:
            chart, other = plain.chart_of(marks), plain.chart_of(turned_over(marks))
            for x, y in some_places(marks):
                here, there = plain.point((x, y)), plain.point((y, x))
                self.assertEqual(sides(other, there), other_signs(sides(chart, here)))
                self.assertEqual(about(other, there), other_way_about(about(chart, here)))

    def test_cells(self):
        for marks in CHARTS:
            chart, other = plain.chart_of(marks), plain.chart_of(turned_over(marks))
            self.assertEqual(cells(other), tuple(sorted(other_signs(cell) for cell in cells(chart))))
            for cell in cells(chart)[::11]:
                wanted = sorted(other_signs(one) for one in next_to(chart, cell))
                self.assertEqual(next_to(other, other_signs(cell)), tuple(wanted))


    def test_rounds(self):
        for marks in CHARTS:
            chart, other = plain.chart_of(marks), plain.chart_of(turned_over(marks))
            for corners in [None, *LANDS]:
                land = plain.land_of(corners)
                over = plain.land_of(corners and tuple((y, x) for x, y in corners[::-1]))
                self.assertEqual(rounds(other, land=over), tuple(sorted(other_way_about(seen) for seen in rounds(chart, land=land))))
            for asked in rounds(chart)[::7]:
                wanted = sorted(other_signs(cell) for cell in where(chart, asked))
                self.assertEqual(where(other, other_way_about(asked)), tuple(wanted))

    def test_ways_and_logs(self):
        for marks in CHARTS:
            chart, other = plain.chart_of(marks), plain.chart_of(turned_over(marks))
            for ends in ways_of(marks, 12):
                here, there = [plain.point(at) for at in ends], [plain.point(at[::-1]) for at in ends]
                self.assertEqual(crossed(chart, *here), crossed(other, *there))
                log = seen_on(chart, *here)
                over = tuple(other_way_about(seen) for seen in log)
                self.assertEqual(seen_on(other, *there), over)
                self.assertEqual(now(other, over[:20]), tuple(sorted(other_signs(cell) for cell in now(chart, log[:20]))))
                if 0 not in sides(chart, here[0]) + sides(chart, here[1]):
                    self.assertEqual(fewest(other, *there)[0], fewest(chart, *here)[0])


    def test_scripts(self):
        # Who stands to the left of a line stands to the right of it then: a skip is asked about the line turned about.
        for marks in CHARTS:
            chart, other = plain.chart_of(marks), plain.chart_of(turned_over(marks))
            for number, script in enumerate(some_scripts(marks, 12)):
                about_turn = [(*step[:3], step[4], step[3]) if step[0] == "skip" else step for step in script.steps]
                over, corners = Script(walks.text_of(about_turn)), LANDS[number % len(LANDS)]
                land, land_over = Land(corners), Land(tuple((y, x) for x, y in corners[::-1]))
                self.assertEqual(ends(chart, script, land), ends(other, over, land_over))
                self.assertEqual(failing(chart, script, land), failing(other, over, land_over))
                word, line, points = walked(chart, script, plain.point(corners[0]))
                self.assertEqual(walked(other, over, plain.point(corners[0][::-1])), (word, line, moved_points(points, lambda x, y: (y, x))))

    def test_laps(self):
        for marks in CHARTS:
            chart, other = plain.chart_of(marks), plain.chart_of(turned_over(marks))
            for script in some_laps(tuple(marks.items())):
                lap, over = Lap(chart, script), Lap(other, script)
                self.assertEqual((lap.table, lap.turns, lap.starts(3), lap.led(2, 2)), (over.table, over.turns, over.starts(3), over.led(2, 2)))

    def test_looks(self):
        for marks in CHARTS:
            chart, other = plain.chart_of(marks), plain.chart_of(turned_over(marks))
            for corners in [None, *LANDS]:
                land, over = plain.land_of(corners), plain.land_of(corners and tuple((y, x) for x, y in corners[::-1]))
                ask = tuple(marks)[1:3]
                first, second = fewest_marks(chart, ask, land=land), fewest_marks(other, ask, land=over)
                self.assertEqual((first[:-1], len(first[-1])), (second[:-1], len(second[-1])))


class AllStarts(unittest.TestCase):

    def test_what_is_told_of_directions_holds_for_each_start(self):
        for told, marks in zip(walks.seeds(len(CHARTS)), CHARTS):
            chart = plain.chart_of(marks)
            for number, script in enumerate(some_scripts(marks, 16)):
                corners = LANDS[number % len(LANDS)]
                lost = failing(chart, script, Land(corners))
                stretches = ends(chart, script, Land(corners))
                for at in walks.starts_in(marks, corners, told, 6):
                    word, line, points = walked(chart, script, plain.point(at))
                    if word == "done":
                        pair, share = walks.end_of(marks, script.steps, at)
                        self.assertTrue(any(stretch[:2] == pair and walks.is_within(stretch[2:], share) for stretch in stretches))
                    else:
                        self.assertIn((line, word), lost)


class FewerMarks(unittest.TestCase):

    def test_what_few_marks_settle_more_marks_do_too(self):
        for marks in [plain.SQUARE, plain.INNER, plain.HOUSE]:
            chart, names = plain.chart_of(marks), tuple(marks)
            for ask, corners in itertools.product(itertools.combinations(names, 2), LANDS):
                for among in itertools.combinations(names, 3):
                    if mixed(chart, ask, land=Land(corners), among=among) is None:
                        self.assertIsNone(mixed(chart, ask, land=Land(corners)))

    def test_rounds_of_more_marks_tell_those_of_fewer(self):
        for marks in [plain.INNER, plain.HOUSE, plain.SEVEN]:
            chart, told = plain.chart_of(marks), {}
            for at in plain.places_everywhere(marks)[::3]:
                here = plain.point(at)
                rows = [about(chart, here), about(chart, here, among=chart.names[:3]), about(chart, here, among=chart.names[1:])]
                self.assertEqual(told.setdefault(rows[0], rows), rows)

    def test_what_is_seen_from_somewhere(self):
        for marks in [plain.INNER, plain.HOUSE, plain.SEVEN]:
            chart, names = plain.chart_of(marks), tuple(marks)
            for corners in [None, *LANDS]:
                land = plain.land_of(corners)
                for among in [names[:3], names[1:]]:
                    left = {plain.left_of(seen, among) for seen in rounds(chart, land=land)}
                    self.assertEqual(set(rounds(chart, land=land, among=among)), left)
            for asked in rounds(chart)[::9]:
                fewer = where(chart, plain.left_of(asked, names[:3]), among=names[:3])
                self.assertTrue(set(where(chart, asked)) <= set(fewer))

    def test_a_chart_without_a_mark(self):
        for marks in [plain.INNER, plain.HOUSE, plain.SEVEN]:
            chart = plain.chart_of(marks)
            for name in marks:
                less, rest = chart.without(name), tuple(other for other in marks if other != name)
                kept = [number for number, pair in enumerate(chart.pairs) if name not in pair]
                for at in some_places(marks):
                    here = plain.point(at)
                    self.assertEqual(about(less, here), about(chart, here, among=rest))
                    self.assertEqual(sides(less, here), tuple(sides(chart, here)[number] for number in kept))
                # Where the mark stood one can stand now: that may be a cell that there was not.
                told = {tuple(cell[number] for number in kept) for cell in cells(chart)}
                self.assertEqual(set(cells(less)), told)


if __name__ == "__main__":
    unittest.main()
