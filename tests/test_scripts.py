"""Point 13, and what points 2, 3 and 9 say of it."""

import itertools
import random
import unittest
from fractions import Fraction

from seenabout.errors import BadLand, BadPoint, BadScript, NoMark
from seenabout.lands import Land, Stretch, united
from seenabout.points import Point
from seenabout.ratios import Ratio
from seenabout.scripts import Script, ends, failing, leads, shows_leads, walked
from tests import plain, walks
from tests.wrong import Case, is_same, shapes_of, values_of_all_classes

TRIANGLE = plain.chart_of(plain.TRIANGLE)
FIVE = plain.chart_of(plain.FIVE)
UNTIL, BETWEEN = "towards c until a b", "from c between a b"
LANDS = [((1, 1), (2, 1), (1, 2)), ((-3, -2), (7, -4), (9, 5), (0, 8)), ((1, 1), (5, 1), (1, 5)), ((-20, 0), (4, -1), (30, 20)),
         ((0, 0), (4, 0), (0, 4)), ((5, -3), (8, -3), (8, 1), (5, 1))]
UNIT = {"c": (0, 1), "a": (0, 0), "b": (1, 0), "d": (2, 3)}
CHARTS = [plain.TRIANGLE, UNIT, plain.SLANT, plain.SQUARE, plain.INNER, plain.FIVE, plain.HOUSE, plain.SEVEN_FLAT]


def share(number, under=1):
    return Ratio(number, under)


def closed(low, high):
    return (None if low is None else (low, True), None if high is None else (high, True))


def values():
    return values_of_all_classes() + [Script(UNTIL), Script(UNTIL).steps, UNTIL]


class Texts(Case):

    def right(self, text, *steps):
        script = Script(text)
        self.assertEqual(script.text, text)
        self.assertTrue(is_same(script.steps, steps), text)
        self.assertEqual(len(script), len(steps))
        self.assertEqual(script, Script(text=text))

    def wrong(self, number, text):
        with self.assertRaises(BadScript) as caught:
            Script(text)
        self.assertIs(type(caught.exception), BadScript)
        self.assertTrue(is_same(caught.exception.value, number), (text, caught.exception.value))

    def test_the_five_kinds_of_lines(self):
        self.right("towards mill until oak church", ("towards", "mill", "until", "oak", "church"))
        self.right("towards a between b c", ("towards", "a", "between", "b", "c"))
        self.right("from a until c b", ("from", "a", "until", "c", "b"))
        self.right("from a between a b", ("from", "a", "between", "a", "b"))
        self.right("from b until a b\nskip 1 left z y\ntowards abcdefgh between x abcdefgh", ("from", "b", "until", "a", "b"),
                   ("skip", 1, "left", "z", "y"), ("towards", "abcdefgh", "between", "x", "abcdefgh"))
        # Words of the lines are names, too.
        self.right("towards towards until until between", ("towards", "towards", "until", "until", "between"))
        self.right("from skip between left from\nskip 1 left skip left\nfrom from until a from", ("from", "skip", "between", "left", "from"),
                   ("skip", 1, "left", "skip", "left"), ("from", "from", "until", "a", "from"))

    def test_one_to_twelve_lines(self):
        told = random.Random(1)
        for many in range(1, 13):
            for _ in range(20):
                steps = walks.drawn_script(plain.FIVE, many, told)
                self.right(walks.text_of(steps), *steps)

    def test_no_string(self):
        for value in values():
            if not isinstance(value, str):
                self.wrong(0, value)
        self.wrong(0, ["towards c until a b"])
        self.wrong(0, b"towards c until a b")

    def test_wrong_lines(self):
        lines = ["", " ", "towards", "towards c", "towards c until", "towards c until a", "towards c until a b c", "Towards c until a b",
                 "to c until a b", "towards c till a b", "towards c left a b", "towards c skip a b", "from c", "from  c until a b", " from c until a b",
                 "from c until a b ", "from c  until a b", "from c until a  b", "from\tc until a b", "from C until a b", "from c until A b", "from c until a B",
                 "from c1 until a b", "from c until a1 b", "from c until a b2", "from c until a a", "from c between b b", "from a until a a", "from  until a b",
                 "from abcdefghi until a b", "from c until abcdefghi b", "from c until a abcdefghi", "from c until a b\r", "until c from a b", "go 1 1",
                 "from c until a b-", "from c until , b", "mark c 1 1", "at 1 1", "from c UNTIL a b", "fromc until a b", "from cuntil a b", "skip"]
        for line in lines:
            self.wrong(1, line)
            self.wrong(2, "\n".join([UNTIL, line, BETWEEN]))
            self.wrong(3, "\n".join([UNTIL, BETWEEN, line]))
            self.wrong(2, "\n".join([UNTIL, line, line]))
        self.wrong(2, UNTIL + "\n")
        self.wrong(1, "\n" + UNTIL)
        self.wrong(2, UNTIL + "\n\n" + UNTIL)

    def test_skips(self):
        for many in ["0", "00", "01", "02", "-1", "+1", "1.", "x", "", "a", "3", "4", "10", "11", "999", "9999999", "1 1"]:
            self.wrong(2, "\n".join([UNTIL, f"skip {many} left a b", BETWEEN, UNTIL]))
        for many in ("1", "2"):
            self.right("\n".join([UNTIL, f"skip {many} left a b", BETWEEN, UNTIL]), *Script(UNTIL).steps, ("skip", int(many), "left", "a", "b"),
                       *Script(BETWEEN + "\n" + UNTIL).steps)
        for line in ["skip 1 left a a", "skip 1 right a b", "skip 1 until a b", "skip 1 left a", "skip 1 left a b c", "skip 1 left A b", "skip 1 left a b1",
                     "skip  1 left a b", "skip 1 left  a b", "skip 1 left a b ", "skip left a b", "skip 1 a b", "skip a left a b", "Skip 1 left a b"]:
            self.wrong(2, "\n".join([UNTIL, line, BETWEEN, UNTIL]))

    def test_skips_in_the_first_and_the_last_line(self):
        self.wrong(1, "skip 1 left a b\n" + UNTIL)
        self.wrong(1, "skip 1 left a b")
        self.wrong(2, UNTIL + "\nskip 1 left a b")
        self.wrong(2, UNTIL + "\nskip 0 left a b")
        self.wrong(3, "\n".join([UNTIL, BETWEEN, "skip 1 left a b"]))
        self.wrong(2, "\n".join([UNTIL, "skip 2 left a b", BETWEEN]))
        self.right("\n".join([UNTIL] + ["skip 1 left a b"] * 10 + [UNTIL]), *Script(UNTIL).steps, *[("skip", 1, "left", "a", "b")] * 10, *Script(UNTIL).steps)
        self.right("\n".join([UNTIL, "skip 10 left a b"] + [BETWEEN] * 10), *Script(UNTIL).steps, ("skip", 10, "left", "a", "b"), *Script(BETWEEN).steps * 10)
        self.wrong(2, "\n".join([UNTIL, "skip 11 left a b"] + [BETWEEN] * 10))

    def test_the_thirteenth_line(self):
        self.assertEqual(len(Script("\n".join([UNTIL] * 12))), 12)
        for last in (UNTIL, "", "x", "skip 1 left a b"):
            self.wrong(13, "\n".join([UNTIL] * 12 + [last]))
        self.wrong(13, "\n".join([UNTIL] * 40))
        self.wrong(5, "\n".join([UNTIL] * 4 + ["x"] + [UNTIL] * 20))
        # Lines of the text that stand behind a skip are counted, whether they can stand there or not.
        self.wrong(13, "\n".join([UNTIL, "skip 11 left a b"] + [UNTIL] * 11))
        self.wrong(2, "\n".join([UNTIL, "skip 12 left a b"] + [UNTIL] * 11))
        self.wrong(3, "\n".join([UNTIL, "skip 1200 left a b"] + [""] * 1200))
        self.wrong(2, "\n".join([UNTIL, "skip 1201 left a b"] + [""] * 1200))

    def test_the_first_wrong_line(self):
        self.wrong(1, "x\ny")
        self.wrong(2, "\n".join([UNTIL, "skip 3 left a b", "x", UNTIL]))
        self.wrong(3, "\n".join([UNTIL, "skip 2 left a b", "x", UNTIL]))

    def test_equality(self):
        script = Script(UNTIL)
        self.assertTrue(script == Script(UNTIL))
        self.assertFalse(script != Script(UNTIL))
        for other in [Script("towards c until b a"), Script(BETWEEN), Script(UNTIL + "\n" + UNTIL), *values_of_all_classes(), UNTIL, script.steps]:
            self.assertIs(script == other, False)
            self.assertIs(script != other, True)


class Walks(Case):

    def right(self, chart, marks, text, at):
        """walked tells what the walk by hand does."""
        told = walked(chart, Script(text), plain.point(at))
        word, line, places = plain.walked(marks, Script(text).steps, tuple(map(Fraction, at)))
        self.assertTrue(is_same(told, (word, line, tuple(plain.point(place) for place in places))), (text, at, told))
        return word, line, [plain.place(point) for point in told[2]]

    def walk(self, text, at, chart=TRIANGLE, marks=plain.TRIANGLE):
        return self.right(chart, marks, text, at)

    def test_example(self):
        self.assertEqual(walked(TRIANGLE, Script(UNTIL), Point(1, 1))[:2], ("at", 1))
        word, line, points = walked(point=Point(1, 1), script=Script(BETWEEN), chart=TRIANGLE)
        self.assertEqual((word, line, [point.text for point in points]), ("done", 0, ["1 1", "4/3 0"]))

    def test_at_once(self):
        # On its piece, at ONE, at OTHER, also if one of them is MARK.
        for text, at in [("towards c until a b", (6, 0)), ("from c until a b", (-2, 0)), ("from c between a b", (1, 0)), ("towards c between a b", (3, 0)),
                         ("towards c until a b", (0, 0)), ("from c between a b", (4, 0)), ("towards a until a b", (4, 0)), ("from a until a b", (0, 0)),
                         ("from b between b a", (4, 0)), ("towards a between a b", (2, 0)), ("from a between a b", (2, 0)), ("from b until a b", (-1, 0))]:
            self.assertEqual(self.walk(text, at), ("done", 0, [at, at]))

    def test_until_and_between(self):
        self.assertEqual(self.walk("from c until a b", (3, 2)), ("done", 0, [(3, 2), (6, 0)]))
        self.assertEqual(self.walk("from c between a b", (3, 2)), ("ever", 1, [(3, 2)]))
        self.assertEqual(self.walk("from c until a b", (1, 2)), ("ever", 1, [(1, 2)]))
        self.assertEqual(self.walk("towards c until a b", (9, -2)), ("done", 0, [(9, -2), (6, 0)]))
        self.assertEqual(self.walk("towards c between a b", (3, -2)), ("done", 0, [(3, -2), (2, 0)]))
        self.assertEqual(self.walk("towards c until a b", (3, -2)), ("at", 1, [(3, -2)]))

    def test_ends_at_marks(self):
        for word in ("until", "between"):
            self.assertEqual(self.walk(f"from c {word} a b", (2, 2)), ("done", 0, [(2, 2), (4, 0)]))
            self.assertEqual(self.walk(f"towards c {word} a b", (0, -3)), ("done", 0, [(0, -3), (0, 0)]))
            # MARK is one of both others.
            self.assertEqual(self.walk(f"towards a {word} a b", (3, 5)), ("done", 0, [(3, 5), (0, 0)]))
            self.assertEqual(self.walk(f"towards b {word} a b", (3, 5)), ("done", 0, [(3, 5), (4, 0)]))
            self.assertEqual(self.walk(f"from a {word} a b", (3, 5)), ("ever", 1, [(3, 5)]))

    def test_along_the_line_of_both(self):
        self.assertEqual(self.walk("towards a until a b", (1, 0)), ("done", 0, [(1, 0), (0, 0)]))
        self.assertEqual(self.walk("from a until a b", (1, 0)), ("done", 0, [(1, 0), (4, 0)]))
        self.assertEqual(self.walk("from b until b a", (1, 0)), ("done", 0, [(1, 0), (0, 0)]))
        self.assertEqual(self.walk("towards a between a b", (9, 0)), ("done", 0, [(9, 0), (4, 0)]))
        self.assertEqual(self.walk("towards b between a b", (9, 0)), ("done", 0, [(9, 0), (4, 0)]))
        self.assertEqual(self.walk("towards b between a b", (-9, 0)), ("done", 0, [(-9, 0), (0, 0)]))
        self.assertEqual(self.walk("from b between a b", (9, 0)), ("ever", 1, [(9, 0)]))
        self.assertEqual(self.walk("from a between a b", (9, 0)), ("ever", 1, [(9, 0)]))
        self.assertEqual(self.walk("from a between a b", (-9, 0)), ("ever", 1, [(-9, 0)]))

    def test_at_and_ever(self):
        # The mark is reached ahead of the line; the way leads off the line, side by side with it, or through the wrong part.
        self.assertEqual(self.walk("towards c until a b", (7, 8)), ("at", 1, [(7, 8)]))
        self.assertEqual(self.walk("from c until a b", (7, 8)), ("ever", 1, [(7, 8)]))
        self.assertEqual(self.walk("from c until a b", (7, 4)), ("ever", 1, [(7, 4)]))
        self.assertEqual(self.walk("towards c until a b", (7, 4)), ("at", 1, [(7, 4)]))
        self.assertEqual(self.walk("from c until a b", (7, -1)), ("ever", 1, [(7, -1)]))

    def test_where_mark_itself_is(self):
        for word, kind in itertools.product(("towards", "from"), ("until", "between")):
            self.assertEqual(self.walk(f"{word} c {kind} a b", (0, 4)), ("at", 1, [(0, 4)]))
            self.assertEqual(self.walk(f"{word} c {kind} a c", (0, 4)), ("done", 0, [(0, 4), (0, 4)]))
            self.assertEqual(self.walk(f"{UNTIL}\n{word} a {kind} b c", (0, 0)), ("at", 2, [(0, 0), (0, 0)]))

    def test_over_marks(self):
        self.assertEqual(self.walk("from b until a c", (6, 1)), ("ever", 1, [(6, 1)]))
        marks = {"a": (0, 0), "b": (2, 2), "c": (10, 0), "d": (0, 10)}
        chart = plain.chart_of(marks)
        self.assertEqual(self.right(chart, marks, "from a between c d", (1, 1)), ("done", 0, [(1, 1), (5, 5)]))
        self.assertEqual(self.right(chart, marks, "from a between c d", (2, 2)), ("done", 0, [(2, 2), (5, 5)]))
        self.assertEqual(self.right(chart, marks, "towards a until c b", (5, 5)), ("done", 0, [(5, 5), (2, 2)]))
        self.assertEqual(self.right(chart, marks, "towards b between d a", (10, 2)), ("at", 1, [(10, 2)]))

    def test_skips(self):
        lines = ["from c between a b", "skip 1 left a c", "towards c between a b", "towards a until a c"]
        # To the right of the way from a to c nothing is skipped.
        self.assertEqual(self.walk("\n".join(lines), (1, 1)), ("done", 0, [(1, 1), (Fraction(4, 3), 0), (Fraction(4, 3), 0), (0, 0)]))
        lines[1] = "skip 1 left c a"
        self.assertEqual(self.walk("\n".join(lines), (1, 1)), ("done", 0, [(1, 1), (Fraction(4, 3), 0), (0, 0)]))
        # On the line nothing is skipped, either.
        lines[1] = "skip 1 left b a"
        self.assertEqual(self.walk("\n".join(lines), (1, 1))[2], [(1, 1), (Fraction(4, 3), 0), (Fraction(4, 3), 0), (0, 0)])
        lines[1] = "skip 2 left c a"
        self.assertEqual(self.walk("\n".join(lines), (1, 1)), ("done", 0, [(1, 1), (Fraction(4, 3), 0)]))

    def test_skips_behind_one_another(self):
        lines = ["from c between a b", "skip 1 left b c", "skip 2 left c a", "skip 1 left c a", "from c until a b", "towards a until a b", "towards a until b a"]
        text = "\n".join(lines)
        self.assertEqual(self.walk(text, (1, 1)), ("done", 0, [(1, 1), (Fraction(4, 3), 0), (0, 0), (0, 0)]))
        text = "\n".join([lines[0], "skip 1 left c a", "skip 5 left a c", "skip 1 left c b", "skip 2 left c a", *lines[4:]])
        self.assertEqual(self.walk(text, (1, 1)), ("done", 0, [(1, 1), (Fraction(4, 3), 0), (0, 0)]))
        # Lines that are skipped count for the line that fails.
        text = "\n".join([lines[0], "skip 2 left c a", lines[0], lines[0], "from c until a b"])
        self.assertEqual(self.walk(text, (1, 1)), ("ever", 5, [(1, 1), (Fraction(4, 3), 0)]))

    def test_a_skip_close_to_its_line(self):
        marks = {"a": (0, 0), "b": (4, 0), "c": (0, 1), "d": (1, 4)}
        chart = plain.chart_of(marks)
        text = "from d between a b\nskip 1 left c a\ntowards b until a b"
        x = Fraction(1, 2)
        # One stands half a step from the line of a and c: to the left of the way down, and to the right of the way up.
        self.assertEqual(self.right(chart, marks, text, (Fraction(3, 4), 2))[2], [(Fraction(3, 4), 2), (x, 0)])
        self.assertEqual(self.right(chart, marks, text.replace("c a", "a c"), (Fraction(3, 4), 2))[2], [(Fraction(3, 4), 2), (x, 0), (4, 0)])

    def test_beside_walks_by_hand(self):
        for told, marks in zip(walks.seeds(len(CHARTS)), CHARTS):
            chart = plain.chart_of(marks)
            for number in range(60):
                make = walks.drawn_script if number % 3 == 0 else walks.led_script
                steps = make(marks, told.choice([1, 2, 3, 5, 12]), told)
                for at in walks.starts_in(marks, LANDS[number % len(LANDS)], told, 4)[::4]:
                    self.right(chart, marks, walks.text_of(steps), at)

    def test_far_and_fine_points(self):
        for at in [(10 ** 12, -10 ** 12 + 1), (Fraction(1, 10 ** 12), Fraction(-7, 10 ** 12 - 1)), (Fraction(10 ** 12, 7), 3)]:
            for text in [UNTIL, BETWEEN, "from a until b c\ntowards b until a c", "towards a until a b\nfrom b until a b"]:
                self.walk(text, at)


class WithoutMark(Case):

    def calls(self, chart, script):
        land = Land(LANDS[0])
        return [(walked, chart, script, Point(1, 1)), (ends, chart, script, land), (failing, chart, script, land), (leads, chart, script, land),
                (shows_leads, chart, script, land, None), (walked, chart, script, None), (ends, chart, script, None), (shows_leads, chart, script, 7, None)]

    def test_the_first_name(self):
        for text, name in [("towards x until y z", "x"), ("towards a until y z", "y"), ("towards a until b z", "z"), ("from x between a b", "x"),
                           (UNTIL + "\nfrom a until x y\ntowards z until a b", "x"), (UNTIL + "\nskip 1 left x y\ntowards z until a b", "x"),
                           (UNTIL + "\nskip 1 left b y\ntowards z until a b", "y"), (UNTIL + "\nskip 1 left b c\ntowards z until a b", "z"),
                           (UNTIL + "\n" + BETWEEN + "\ntowards a until b cc", "cc")]:
            for call, *arguments in self.calls(TRIANGLE, Script(text)):
                with self.assertRaises(NoMark) as caught:
                    call(*arguments)
                self.assertIs(type(caught.exception), NoMark)
                self.assertTrue(is_same(caught.exception.value, name), text)

    def test_all_lines_at_all_places(self):
        for line, word in itertools.product(range(4), (1, 3, 4)):
            steps = [list(step) for step in Script("\n".join([UNTIL, "skip 1 left a b", BETWEEN, UNTIL])).steps]
            if (line, word) == (1, 1):
                continue
            steps[line][word] = "nowhere"
            for call, *arguments in self.calls(TRIANGLE, Script(walks.text_of(steps))):
                self.assertRaises(NoMark, call, *arguments)


class Stretches(Case):

    def shares(self, stretch):
        return {share for share in [Fraction(number, 4) for number in range(-8, 25)] if walks.is_within((stretch.low, stretch.high), share)}

    def test_united(self):
        told = random.Random(31)
        ends_of_all = [(Ratio(number), is_in) for number in range(5) for is_in in (True, False)]
        some = [Stretch(low, high) for low, high in itertools.product([None, *ends_of_all], repeat=2)
                if low is None or high is None or low[0] < high[0] or (low[0] == high[0] and low[1] and high[1])]
        for _ in range(3000):
            parts = told.sample(some, told.choice([0, 1, 2, 2, 3, 5]))
            found = united(parts)
            rows = [self.shares(part) for part in found]
            self.assertEqual(set().union(*rows), set().union(*[self.shares(part) for part in parts]))
            for one, other in zip(found, found[1:]):
                high, low = one.high, other.low
                self.assertTrue(high[0] < low[0] or (high[0] == low[0] and not high[1] and not low[1]), [(part.low, part.high) for part in found])
            for part in found:
                self.assertIn(None if part.low is None else part.low, [one.low for one in parts])
                self.assertIn(None if part.high is None else part.high, [one.high for one in parts])

    def test_met(self):
        ends_of_all = [None, *[(Ratio(number), is_in) for number in range(3) for is_in in (True, False)]]
        some = [Stretch(low, high) for low, high in itertools.product(ends_of_all, repeat=2)
                if low is None or high is None or low[0] < high[0] or (low[0] == high[0] and low[1] and high[1])]
        for one, other in itertools.product(some, repeat=2):
            both, found = self.shares(one) & self.shares(other), one.meet(other)
            self.assertEqual(both, set() if found is None else self.shares(found))

    def test_some_share(self):
        for low, high in itertools.product([None, (Ratio(1), True), (Ratio(-3, 2), False)], [None, (Ratio(1), True), (Ratio(7), False)]):
            share = walks.fraction(Stretch(low, high).some_share())
            self.assertTrue(walks.is_within((low, high), share))


class Lands(Case):

    def told(self, chart, text, corners):
        """What is told of a land; all that the other functions and walks say agrees with it."""
        script, land = Script(text), Land(corners)
        stretches, lost = ends(chart, script, land), failing(chart, script, land)
        answer = leads(chart, script, land)
        self.assertEqual(len(answer), 2)
        if lost:
            self.assertEqual(answer[0], "not")
            self.assertIn(answer[1], land)
            word, line, _ = walked(chart, script, answer[1])
            self.assertIn((line, word), lost)
        else:
            self.assertTrue(is_same(answer, ("sure", stretches)))
        self.assertIs(shows_leads(chart, script, land, answer), True)
        self.assertEqual((ends(chart, script, land), failing(chart, script, land), leads(chart, script, land)), (stretches, lost, answer))
        return stretches, lost

    def in_form(self, chart, stretches, lost):
        self.assertIs(type(stretches), tuple)
        for stretch in stretches:
            self.assertEqual((type(stretch), len(stretch)), (tuple, 4))
            self.assertIn(stretch[:2], chart.pairs)
            for end in stretch[2:]:
                self.assertTrue(end is None or (type(end), type(end[0]), type(end[1]), len(end)) == (tuple, Ratio, bool, 2))
        places = [chart.pairs.index(stretch[:2]) for stretch in stretches]
        self.assertEqual(places, sorted(places))
        for one, other in zip(stretches, stretches[1:]):
            if one[:2] == other[:2]:
                high, low = one[3], other[2]
                self.assertTrue(high[0] < low[0] or (high[0] == low[0] and not high[1] and not low[1]))
        self.assertTrue(is_same(lost, tuple(sorted(set(lost)))))

    def test_example(self):
        small = Land(((1, 1), (2, 1), (1, 2)))
        self.assertTrue(is_same(leads(TRIANGLE, Script(BETWEEN), small), ("sure", (("a", "b", *closed(share(1, 3), share(2, 3))),))))
        self.assertTrue(is_same(failing(TRIANGLE, Script(UNTIL), small), ((1, "at"),)))
        self.assertTrue(is_same(ends(TRIANGLE, Script("from c until a b"), small), ()))
        for call in (ends, failing, leads):
            self.assertEqual(call(land=small, script=Script(UNTIL), chart=TRIANGLE), call(TRIANGLE, Script(UNTIL), small))
        self.assertIs(shows_leads(value=("sure", ()), land=small, script=Script(UNTIL), chart=TRIANGLE), False)

    def test_by_hand(self):
        whole = ((-1, -1), (9, -1), (9, 9), (-1, 9))
        for text, corners, stretches, lost in [
                # The land is cut by the line, and its points beyond the line lead nowhere.
                ("from c until a b", whole, [("a", "b", None, (share(0), True)), ("a", "b", (share(1), True), None)], [(1, "at"), (1, "ever")]),
                ("from c between a b", whole, [("a", "b", *closed(share(0), share(1)))], [(1, "at"), (1, "ever")]),
                # From beyond the line back to it.
                ("towards c until a b", ((5, -4), (9, -4), (9, -1)), [("a", "b", *closed(share(1), share(9, 5)))], [(1, "at")]),
                ("towards c until a b", ((5, -1), (9, -4), (9, -1)), [("a", "b", *closed(share(1), share(9, 5)))], []),
                # To marks that are in the pair all ways lead; from them none does but on the line.
                ("towards a until a b", whole, [("a", "b", *closed(share(-1, 4), share(0))), ("a", "b", *closed(share(1), share(9, 4)))], []),
                ("towards a between a b", whole, [("a", "b", *closed(share(0), share(1)))], []),
                ("towards a between a b", ((-5, -1), (-1, -1), (-3, 2)), [("a", "b", *closed(share(0), share(0)))], []),
                ("towards b between a b", ((-5, -1), (-1, -1), (-3, 2)), [("a", "b", *closed(share(0), share(0))), ("a", "b", *closed(share(1), share(1)))], []),
                ("towards b until a b", ((1, 1), (2, 1), (1, 2)), [("a", "b", *closed(share(1), share(1)))], []),
                ("from a until a b", ((1, 1), (2, 1), (1, 2)), [], [(1, "ever")]),
                ("from a until a b", ((1, -1), (2, -1), (1, 1)), [("a", "b", *closed(share(1), share(1)))], [(1, "ever")]),
                ("from a between a b", ((3, -1), (9, -1), (3, 9)), [("a", "b", *closed(share(3, 4), share(1)))], [(1, "ever")]),
                # A corner at a mark, an edge on the line.
                ("towards b until a c", ((4, 0), (8, 0), (8, 4)), [], [(1, "at")]),
                ("from b until a c", ((0, 0), (4, 0), (0, 4)), [("a", "c", *closed(share(0), share(0))), ("a", "c", *closed(share(1), share(1)))], [(1, "at"), (1, "ever")]),
                ("from b between a c", ((0, 0), (4, 0), (0, 4)), [("a", "c", *closed(share(0), share(1)))], [(1, "at")]),
                ("from b between a c", ((0, 0), (3, 0), (0, 4)), [("a", "c", *closed(share(0), share(1)))], []),
                # A start at MARK alone fails with "at", those beside it on its level with "ever".
                ("from c between a b", ((0, 4), (-1, 1), (1, 1)), [("a", "b", *closed(share(0), share(1, 3)))], [(1, "at"), (1, "ever")]),
                ("from c until a b", ((0, 4), (-3, 2), (-1, 1)), [("a", "b", *closed(share(-3, 2), share(-1, 3)))], [(1, "at")]),
                ("from c until a b", ((-2, 4), (-3, 2), (-1, 1)), [("a", "b", None, (share(-1, 3), True))], [(1, "ever")])]:
            self.assertTrue(is_same(self.told(TRIANGLE, text, corners), (tuple(stretches), tuple(lost))), (text, corners, ends(TRIANGLE, Script(text), Land(corners)), failing(TRIANGLE, Script(text), Land(corners))))

    def test_skips_cut_stretches(self):
        marks = {"a": (0, 0), "b": (4, 0), "c": (0, 4), "d": (3, 9)}
        chart = plain.chart_of(marks)
        for corners in (((1, 1), (3, -1), (5, 1), (3, 3)), ((-9, -9), (9, -9), (9, 9), (-9, 9))):
            for first in ("from c between a b", "towards d between a c", "from d until b c", "towards c until b d"):
                for one, other in itertools.permutations("abcd", 2):
                    text = "\n".join([first, f"skip 1 left {one} {other}", "towards a until a d"])
                    self.exact(chart, marks, Script(text).steps, corners)

    def test_open_ends(self):
        # Of all who come to the line of a and b between both, those to the left of the way from d to c go on to a.
        marks = {"a": (0, 0), "b": (4, 0), "c": (2, 4), "d": (1, -5)}
        chart = plain.chart_of(marks)
        cross = walks.fraction(chart.line("a", "b").share(chart.line("a", "b") & chart.line("d", "c")))
        open_end = (Ratio(cross.numerator, cross.denominator), False)
        text = "from c between a b\nskip 1 left c d\ntowards a until a b"
        land = ((0, 1), (4, 1), (3, 3), (1, 3))
        # Left of the way down from c to d is where x is greater.
        self.assertTrue(is_same(ends(chart, Script(text), Land(land)), (("a", "b", (share(0), True), (share(0), True)), ("a", "b", open_end, (share(1), True)))))
        text = "from c between a b\nskip 1 left d c\ntowards b until a b"
        self.assertTrue(is_same(ends(chart, Script(text), Land(land)), (("a", "b", (share(0), True), open_end), ("a", "b", (share(1), True), (share(1), True)))))
        self.exact(chart, marks, Script(text).steps, land)

    def exact(self, chart, marks, steps, corners):
        """Each share that belongs to a stretch is an end of some walk, and none close to them that does not."""
        stretches, lost = self.told(chart, walks.text_of(steps), corners)
        self.in_form(chart, stretches, lost)
        back, told = walks.Backwards(marks, tuple(steps), corners), {}
        for one, other, *stretch in stretches:
            told.setdefault((one, other), []).append(stretch)
        for pair, some in told.items():
            for stretch, number in [(stretch, number) for stretch in some for number in walks.shares_of(stretch)]:
                self.assertIsNotNone(back.start(pair, number), (marks, steps, corners, pair, stretch, number))
            for number in walks.shares_outside(some):
                self.assertIsNone(back.start(pair, number), (marks, steps, corners, pair, some, number))
        return stretches, lost

    def beside_walks(self, marks, steps, corners, stretches, lost, told):
        """Walks from many starts end in one of the stretches, or fail as is told; and all that is told to fail is seen to."""
        seen = {}
        for at in walks.starts_in(marks, corners, told, 8):
            word, line, _ = plain.walked(marks, steps, at)
            if word != "done":
                self.assertIn((line, word), lost, (marks, steps, corners, at))
                seen[line, word] = True
            else:
                pair, number = walks.end_of(marks, steps, at)
                around = [stretch for stretch in stretches if stretch[:2] == pair and walks.is_within(stretch[2:], number)]
                self.assertEqual(len(around), 1, (marks, steps, corners, at))
        for line, word in lost:
            if (line, word) not in seen:
                fails = [plain.walked(marks, steps, at)[:2] for at in walks.starts_of_failures(marks, steps, corners, line)]
                self.assertIn((word, line), fails, (marks, steps, corners, fails))

    def test_beside_walks(self):
        for told, marks in zip(walks.seeds(len(CHARTS)), CHARTS):
            chart = plain.chart_of(marks)
            for number in range(36):
                make = walks.drawn_script if number % 3 == 0 else walks.led_script
                steps = tuple(make(marks, told.choice([1, 1, 2, 3, 4, 6, 12]), told))
                corners = LANDS[number % len(LANDS)]
                stretches, lost = self.told(chart, walks.text_of(steps), corners)
                self.in_form(chart, stretches, lost)
                self.beside_walks(marks, steps, corners, stretches, lost, told)

    def test_each_second_step(self):
        # The first one leads to endless stretches, to both sides of both marks and to all between them, or to one mark alone.
        told = random.Random(17)
        for first, corners in [("from c until a b", ((-1, -1), (9, -1), (9, 9), (-1, 9))), ("towards a between a b", ((-9, -1), (9, -1), (0, 3))),
                               ("towards d until c e", ((-9, -9), (9, -9), (0, 3))), ("towards b until a b", ((1, 1), (3, 1), (2, 2)))]:
            for word, kind, mark, pair in itertools.product(("towards", "from"), ("until", "between"), "abcde", itertools.combinations("abcde", 2)):
                steps = (tuple(first.split(" ")), (word, mark, kind, *pair))
                stretches, lost = self.exact(FIVE, plain.FIVE, steps, corners) if told.random() < 0.15 else self.told(FIVE, walks.text_of(steps), corners)
                self.beside_walks(plain.FIVE, steps, corners, stretches, lost, told)

    def test_just_these_ends(self):
        for told, marks in zip(walks.seeds(len(CHARTS)), CHARTS):
            chart = plain.chart_of(marks)
            for number in range(30):
                steps = walks.led_script(marks, told.choice([1, 2, 3, 4, 6, 12]), told)
                self.exact(chart, marks, steps, LANDS[number % len(LANDS)])

    def test_one_start_that_fails(self):
        # From all but a corner of the land the walk is done; there it goes side by side with the line.
        text = "from c until a b"
        stretches, lost = self.told(TRIANGLE, text, ((7, 4), (6, 1), (7, 1)))
        self.assertTrue(is_same(lost, ((1, "ever"),)))
        self.assertEqual(leads(TRIANGLE, Script(text), Land(((7, 4), (6, 1), (7, 1))))[1], Point(7, 4))
        self.assertTrue(is_same(stretches, (("a", "b", (share(2), True), None),)))

    def test_one_start_that_fails_later(self):
        # Only who sets out from the corner at the line of a and c comes to a, the MARK of the second step.
        text, corners = "from c between a b\nfrom a between b c", ((0, 1), (1, 1), (1, 2))
        stretches, lost = self.told(TRIANGLE, text, corners)
        self.assertTrue(is_same((stretches, lost), ((("b", "c", *closed(share(0), share(0))),), ((2, "at"),))))
        self.assertEqual(leads(TRIANGLE, Script(text), Land(corners)), ("not", Point(0, 1)))
        # Only who comes to the crossing of both lines stands on the line of the second step, and comes to its other end.
        marks = {"a": (0, 0), "b": (4, 0), "c": (2, 4), "d": (1, -5)}
        text, corners = "from c between a b\nfrom d until c d", ((1, 1), (3, 1), (2, 3))
        stretches, lost = self.told(plain.chart_of(marks), text, corners)
        self.assertTrue(is_same((stretches, lost), ((("c", "d", *closed(share(0), share(0))),), ((2, "ever"),))))

    def test_refused(self):
        script = Script(UNTIL)
        for value in [*values(), LANDS[0], Land]:
            if type(value) is not Land:
                for call in (ends, failing, leads):
                    self.refused(BadLand, value, call, TRIANGLE, script, value)
                    self.refused(BadLand, value, call, land=value, chart=TRIANGLE, script=script)
                self.refused(BadLand, value, shows_leads, TRIANGLE, script, value, ("sure", ()))
            if type(value) is not Point:
                self.refused(BadPoint, value, walked, TRIANGLE, script, value)
                self.refused(BadPoint, value, walked, point=value, script=script, chart=TRIANGLE)


class Shows(Case):

    def test_right_by_any_hand(self):
        script, land = Script(UNTIL), Land(LANDS[1])
        for x, y in itertools.product(range(-4, 10), repeat=2):
            point = Point(x, y)
            fails = point in land and walked(TRIANGLE, script, point)[0] != "done"
            self.assertIs(shows_leads(TRIANGLE, script, land, ("not", point)), fails)
        # A mark, a corner, and a point on the border are starts, too.
        land = Land(((0, 4), (-3, 2), (-1, 1)))
        self.assertIs(shows_leads(TRIANGLE, Script("from c until a b"), land, ("not", Point(0, 4))), True)
        for point in [Point(-3, 2), Point(-1, 1), Point(-2, Ratio(3, 2))]:
            self.assertIs(shows_leads(TRIANGLE, Script("from c until a b"), land, ("not", point)), False)

    def test_sure(self):
        script, land = Script(BETWEEN), Land(LANDS[0])
        right = ("sure", (("a", "b", (Ratio(1, 3), True), (Ratio(2, 3), True)),))
        self.assertIs(shows_leads(TRIANGLE, script, land, right), True)
        self.assertIs(shows_leads(TRIANGLE, Script(UNTIL), land, ("sure", ())), False)
        self.assertIs(shows_leads(TRIANGLE, Script("from c until a b"), land, ("sure", ())), False)
        for low, high in [((Ratio(1, 3), True), (Ratio(2, 3), False)), ((Ratio(1, 3), False), (Ratio(2, 3), True)), ((Ratio(1, 3), True), None),
                          (None, (Ratio(2, 3), True)), ((Ratio(1, 3), 1), (Ratio(2, 3), 1)), ((Ratio(1, 3), True), (Ratio(2, 3), 1)), (None, None),
                          ((Ratio(1, 3), True), (Ratio(1, 2), True)), ((Ratio(1, 4), True), (Ratio(2, 3), True))]:
            self.assertIs(shows_leads(TRIANGLE, script, land, ("sure", (("a", "b", low, high),))), False)
        cut = (("a", "b", (Ratio(1, 3), True), (Ratio(1, 2), True)), ("a", "b", (Ratio(1, 2), False), (Ratio(2, 3), True)))
        self.assertIs(shows_leads(TRIANGLE, script, land, ("sure", cut)), False)
        self.assertIs(shows_leads(TRIANGLE, script, land, ("sure", (("b", "a", *right[1][0][2:]),))), False)

    def test_bent_at_any_depth(self):
        cases = [(BETWEEN, LANDS[0]), (UNTIL, LANDS[0]), ("towards a until a b", LANDS[1]), ("towards b between a b", ((-5, -1), (-1, -1), (-3, 2))),
                 ("from c between a b\nskip 1 left a c\ntowards b until a b", LANDS[0])]
        for text, corners in cases:
            script, land = Script(text), Land(corners)
            answer = leads(TRIANGLE, script, land)
            for value in [*shapes_of(answer), *values_of_all_classes()]:
                right = is_same(value, answer)
                if type(value) is tuple and len(value) == 2 and is_same(value[0], "not") and type(value[1]) is Point:
                    at = plain.place(value[1])
                    right = plain.in_land(corners, at) and plain.walked(plain.TRIANGLE, script.steps, at)[0] != "done"
                self.assertIs(shows_leads(TRIANGLE, script, land, value), right, (text, value))

    def test_what_belongs_to_the_other_word(self):
        script, land = Script(UNTIL), Land(LANDS[0])
        self.assertIs(shows_leads(TRIANGLE, script, land, ("sure", leads(TRIANGLE, script, land)[1])), False)
        script = Script(BETWEEN)
        self.assertIs(shows_leads(TRIANGLE, script, land, ("not", leads(TRIANGLE, script, land)[1])), False)

    def test_endless(self):
        # Those to the right of the way from d to c come to the line of e and f as far below as one likes; the others come there by b.
        marks = {"a": (0, 0), "b": (4, 0), "c": (2, 4), "d": (2, -5), "e": (10, 1), "f": (10, 7)}
        chart, land = plain.chart_of(marks), Land(((1, 1), (3, 1), (2, 3)))
        script = Script("from c between a b\nskip 1 left c d\ntowards b until a b\nfrom c until e f")
        answer = leads(chart, script, land)
        by_b = (Ratio(-13, 6), True)
        self.assertTrue(is_same(answer, ("sure", (("e", "f", None, (Ratio(-7, 2), True)), ("e", "f", by_b, by_b)))))
        for value in shapes_of(answer):
            self.assertIs(shows_leads(chart, script, land, value), is_same(value, answer))


if __name__ == "__main__":
    unittest.main()
