"""Point 14, and what points 2 and 3 say of it."""

import itertools
import math
import unittest
from fractions import Fraction

from seenabout.errors import BadNumber, NoLap, NoMark
from seenabout.laps import Lap
from seenabout.ratios import Ratio
from seenabout.scripts import Script, walked
from tests import plain, walks
from tests.wrong import Case, is_same, nested, values_of_all_classes

FIVE = plain.chart_of(plain.FIVE)
EXAMPLE = "towards d between a c\ntowards e between a b"
# Laps of which as many as are told lead each share to itself: marks, text, table, how many, fixed.
TURNS = [
    ({"a": (3, 3), "b": (4, 2), "c": (0, 3), "d": (3, 4)}, "from d until b a\ntowards d between a c\nfrom d until b c", (1, 0, 0, 1), 1, (0, 0, 0)),
    ({"a": (1, 4), "b": (1, 2), "c": (0, 1), "d": (2, 2)}, "towards b until a d\nfrom b until d c", (1, 0, 0, 1), 1, (0, 0, 0)),
    ({"a": (3, 1), "b": (3, 0), "c": (1, 2), "d": (0, 2)}, "towards c between d b\nfrom a until c d\nfrom b until a d", (2, -1, 3, -2), 2, (3, -4, 1)),
    ({"a": (0, 0), "b": (3, 3), "c": (1, 3), "d": (3, 2)}, "towards d between c a\ntowards b between d c\nfrom a between d b\ntowards a until b c",
     (4, 3, 11, -4), 2, (11, -8, -3)),
    ({"a": (2, 2), "b": (2, 1), "c": (1, 0), "d": (1, 1)}, "towards b between c d\ntowards a until c b\ntowards d until b a\nfrom c until d a",
     (1, -1, 1, 0), 3, (1, -1, 1)),
    ({"a": (0, 1), "b": (2, 2), "c": (1, 0), "d": (3, 0), "e": (3, 1)},
     "towards a between e b\ntowards c between a d\ntowards b until c a\ntowards e until a d\nfrom e until d b\ntowards a until e c",
     (4, -2, 5, -2), 4, (5, -6, 2)),
    ({"a": (1, 2), "b": (0, 1), "c": (2, 1), "d": (2, 0), "e": (1, 0), "f": (0, 2)}, "from e until b d\ntowards a between d e\ntowards f until b c",
     (8, -1, 16, 4), 6, (16, -4, 1)),
    ({"a": (4, 0), "b": (3, 2), "c": (3, 3), "d": (1, 1), "e": (0, 1)}, "from c between d a\nfrom c between e a\ntowards d until b e",
     (25, -14, 28, -17), None, (2, -3, 1)),
    ({"a": (1, 1), "b": (1, 0), "c": (0, 1), "d": (3, 0), "e": (0, 2)}, "towards c between e b\ntowards d between e a\ntowards c until b a",
     (1, 1, 0, 4), None, (0, 3, -1)),
    # One of the numbers is 0, or two of them are alike: none of these leads each share to itself.
    ({"a": (0, 1), "b": (0, 0), "c": (2, 0), "d": (2, 2), "e": (1, 2)}, "from d until a b\nfrom e until b c", (1, 0, 0, 2), None, (0, 1, 0)),
    ({"a": (0, 1), "b": (3, 2), "c": (3, 3), "d": (0, 0), "e": (2, 1)}, "from b until a e\ntowards d until a b\nfrom c until d a", (1, 0, -1, 1), None, (1, 0, 0)),
    ({"a": (0, 2), "b": (1, 2), "c": (2, 1), "d": (1, 0), "e": (0, 1), "f": (2, 0)}, "from b between e a\nfrom d until f c", (1, 4, 0, 1), None, (0, 0, 1)),
    # No share at all is led to one of the stretches from which a lap is done.
    ({"a": (0, 0), "b": (4, 2), "c": (1, 3), "d": (3, 0), "e": (0, 4)}, "from e until d b\nfrom a until b c", (3, 0, 21, -25), None, (3, -4, 0)),
]


def some_laps(many, kinds=(2, 3, 4, 6, 12)):
    """(marks, chart, steps, lap) of laps that are drawn as they come."""
    for number, told in enumerate(walks.seeds(many)):
        marks = [plain.FIVE, plain.SQUARE, plain.INNER, plain.HOUSE, plain.SEVEN_FLAT, plain.SEVEN, plain.HEXAGON][number % 7]
        steps = walks.drawn_lap(marks, kinds[number % len(kinds)], told)
        if steps is not None:
            chart = plain.chart_of(marks)
            yield marks, chart, steps, Lap(chart, Script(walks.text_of(steps)))


def ratio(number):
    return Ratio(Fraction(number).numerator, Fraction(number).denominator)


def place_at(marks, pair, share):
    return plain.between(marks[pair[0]], marks[pair[1]], share)


def led(marks, steps, pair, share, many):
    """What so many walks, one behind another, come to: as led tells it, with Fractions."""
    for lap in range(1, many + 1):
        word, line, places = plain.walked(marks, steps, place_at(marks, pair, share))
        if word != "done":
            return word, lap, line
        share = plain.on_way(marks[pair[0]], marks[pair[1]], places[-1])
    return "done", share


def across(marks, steps, pair, share):
    """The share to which the lines through MARK and the last place lead, whether a walk goes there or not; None if one is side by side."""
    at = place_at(marks, pair, share)
    for step in steps:
        at = plain.crossing((marks[step[1]], at), (marks[step[3]], marks[step[4]]))
        if at is None:
            return None
    return plain.on_way(marks[pair[0]], marks[pair[1]], at)


class Created(Case):

    def no_lap(self, number, chart, text):
        with self.assertRaises(NoLap) as caught:
            Lap(chart, Script(text))
        self.assertIs(type(caught.exception), NoLap)
        self.assertTrue(is_same(caught.exception.value, number), (text, caught.exception.value))

    def test_example(self):
        lap = Lap(script=Script(EXAMPLE), chart=FIVE)
        self.assertTrue(is_same(lap.pair, ("a", "b")))
        self.assertTrue(is_same(lap.table, (1, 0, 6, -3)))
        self.assertTrue(is_same(lap.starts(), (((Ratio(-3), True), (Ratio(0), True)),)))
        self.assertTrue(is_same(lap.starts(2), (((Ratio(0), True), (Ratio(0), True)),)))
        self.assertIsNone(lap.turns)
        self.assertTrue(is_same(lap.fixed, (3, -2, 0)))
        self.assertTrue(is_same(lap.led(-1), ("done", Ratio(1, 9))))

    def test_the_pair_of_the_last_line(self):
        self.assertEqual(Lap(FIVE, Script("towards d between a c\ntowards e between b a")).pair, ("a", "b"))
        self.assertEqual(Lap(FIVE, Script("towards d between c a\ntowards d between e b")).pair, ("b", "e"))
        chart = plain.chart_of({"e": (1, -3), "b": (4, 0), "a": (0, 0), "c": (0, 4), "d": (6, 6)})
        self.assertEqual(Lap(chart, Script("towards d between c a\ntowards d between b e")).pair, ("e", "b"))

    def test_skips(self):
        self.no_lap(2, FIVE, "towards d between a c\nskip 1 left a b\ntowards e between a b")
        self.no_lap(2, FIVE, "towards d between a c\nskip 1 left a c\ntowards e between a b")
        self.no_lap(3, FIVE, "towards d between a c\ntowards e between a b\nskip 1 left a b\ntowards d between c b")
        # A first line that is wrong comes ahead of it, and so does the second one.
        self.no_lap(1, FIVE, "towards a between a c\nskip 1 left a b\ntowards e between a b")
        self.no_lap(2, FIVE, "towards d between a c\ntowards e between c a\nskip 1 left a b\ntowards d between c b")

    def test_a_pair_like_that_of_the_line_ahead(self):
        self.no_lap(2, FIVE, "towards d between a c\ntowards e until a c\ntowards e between a b")
        self.no_lap(2, FIVE, "towards d between a c\nfrom e until c a\ntowards e between a b")
        self.no_lap(3, FIVE, "towards d between a c\ntowards e between a b\nfrom c until a b")
        # Ahead of the first one counts the last one, also turned about.
        self.no_lap(1, FIVE, "towards d between a c\ntowards e between a b\nfrom b until a c")
        self.no_lap(1, FIVE, "towards d between a c\ntowards e between a b\nfrom b until c a")
        self.no_lap(1, FIVE, "towards d between a c\ntowards e between a c")

    def test_one_line(self):
        for text in ["towards d between a c", "from d until c a", "towards a between a c"]:
            self.no_lap(1, FIVE, text)

    def test_a_mark_in_these_pairs(self):
        self.no_lap(1, FIVE, "towards a between a c\ntowards e between a b")
        self.no_lap(1, FIVE, "towards c between a c\ntowards e between a b")
        self.no_lap(2, FIVE, "towards d between a c\nfrom b between a b")
        self.no_lap(2, FIVE, "towards d between a c\nfrom a between e b")
        self.no_lap(2, FIVE, "towards d between a c\nfrom c between a b")
        self.no_lap(1, FIVE, "towards b between a c\ntowards e between a b")
        self.no_lap(1, FIVE, "towards b between a c\ntowards e between b a")
        self.no_lap(3, FIVE, "towards d between a c\ntowards e between a b\ntowards b between c e")
        Lap(FIVE, Script("towards e between a c\ntowards d between a b\ntowards c between d b\ntowards a between e c\ntowards a between b d"))

    def test_marks_that_are_called_like_words(self):
        marks = {"until": (0, 0), "between": (4, 0), "left": (0, 4), "from": (6, 6), "skip": (1, -3)}
        chart = plain.chart_of(marks)
        for text in ["towards from until until left\ntowards skip until until between", "towards until until left from\ntowards until between left skip",
                     "from between between left until\nfrom between between from until", "towards skip between until left\ntowards skip until between until"]:
            words = [line.split(" ") for line in text.split("\n")]
            wrong = [number + 1 for number in range(2) if words[number][1] in words[0][3:] + words[1][3:]]
            if wrong:
                self.no_lap(wrong[0], chart, text)
            else:
                Lap(chart, Script(text))

    def test_all_texts_of_two_lines(self):
        chart, marks = plain.chart_of(plain.SQUARE), plain.SQUARE
        lines = [("from", mark, "until", *pair) for mark in "abcd" for pair in [("a", "b"), ("b", "a"), ("c", "d"), ("b", "c"), ("d", "a")]]
        for steps in itertools.product(lines, repeat=2):
            wrong = [number + 1 for number in range(2) if set(steps[0][3:]) == set(steps[1][3:]) or steps[number][1] in steps[0][3:] + steps[1][3:]]
            if wrong:
                self.no_lap(wrong[0], chart, walks.text_of(steps))
            else:
                self.assertEqual(Lap(chart, Script(walks.text_of(steps))).pair, walks.pair_of(marks, steps[1]))

    def test_no_mark_ahead(self):
        for text, name in [("towards x between y z", "x"), (EXAMPLE + "\ntowards a until x y", "x"), ("towards a between a b\nskip 1 left a x\nfrom y until a b", "x"),
                           ("towards a between a c\ntowards e between a zz", "zz")]:
            with self.assertRaises(NoMark) as caught:
                Lap(FIVE, Script(text))
            self.assertTrue(is_same(caught.exception.value, name))


class Tables(Case):

    def test_turns_and_fixed_by_hand(self):
        for marks, text, table, turns, fixed in TURNS:
            lap = Lap(plain.chart_of(marks), Script(text))
            self.assertTrue(is_same((lap.table, lap.turns, lap.fixed), (table, turns, fixed)), text)

    def test_beside_lines_that_are_crossed(self):
        for marks, _, steps, lap in some_laps(60):
            p, q, r, s = lap.table
            self.assertTrue(all(type(number) is int for number in lap.table))
            self.assertEqual(math.gcd(*lap.table), 1)
            self.assertGreater([number for number in lap.table if number][0], 0)
            for share in [Fraction(0), Fraction(1), Fraction(1, 2), Fraction(-3), Fraction(22, 7), Fraction(-1, 9), Fraction(500)]:
                wanted = across(marks, steps, lap.pair, share)
                if wanted is not None:
                    self.assertEqual((p * share + q) / (r * share + s), wanted)
            if r != 0:
                self.assertIsNone(across(marks, steps, lap.pair, Fraction(-s, r)))

    def test_turns_beside_the_table(self):
        seen = set()
        for lap in [one[3] for one in some_laps(60)] + [Lap(plain.chart_of(marks), Script(text)) for marks, text, *_ in TURNS]:
            p, q, r, s = lap.table
            shares, still = [Fraction(number, 1009) for number in range(1, 8)], []
            for many in range(1, 7):
                shares = [(p * share + q) / (r * share + s) for share in shares]
                if shares == [Fraction(number, 1009) for number in range(1, 8)]:
                    still.append(many)
            self.assertTrue(is_same(lap.turns, still[0] if still else None))
            seen.add(lap.turns)
        self.assertEqual(seen, {None, 1, 2, 3, 4, 6})

    def test_fixed_beside_the_table(self):
        for lap in [one[3] for one in some_laps(60)] + [Lap(plain.chart_of(marks), Script(text)) for marks, text, *_ in TURNS]:
            (p, q, r, s), (a, b, c) = lap.table, lap.fixed
            self.assertTrue(all(type(number) is int for number in lap.fixed))
            if lap.fixed != (0, 0, 0):
                self.assertEqual(math.gcd(a, b, c), 1)
                self.assertGreater([number for number in lap.fixed if number][0], 0)
            for share in range(-3, 4):
                for other in range(-3, 4):
                    # Both are the same but for one number by which they are multiplied.
                    one, two = [r * u * u + (s - p) * u - q for u in (share, other)]
                    self.assertEqual(one * (a * other * other + b * other + c), two * (a * share * share + b * share + c))
            self.assertEqual(lap.fixed == (0, 0, 0), (q, r, s - p) == (0, 0, 0))


class Led(Case):

    def right(self, marks, steps, lap, share, many):
        told = lap.led(ratio(share), many)
        wanted = led(marks, steps, lap.pair, Fraction(share), many)
        if wanted[0] == "done":
            wanted = "done", ratio(wanted[1])
        self.assertTrue(is_same(told, wanted), (marks, steps, share, many, told, wanted))
        return told

    def test_beside_walks(self):
        words = set()
        for marks, _, steps, lap in some_laps(90):
            for share in [Fraction(0), Fraction(1), Fraction(1, 3), Fraction(-2), Fraction(7, 2), Fraction(-40)]:
                for many in (1, 2, 3, 30):
                    words.add(self.right(marks, steps, lap, share, many)[0])
            for stretch in lap.starts(2):
                for share in walks.shares_of(stretch):
                    self.assertEqual(self.right(marks, steps, lap, share, 2)[0], "done")
        self.assertEqual(words, {"done", "at", "ever"})

    def test_beside_the_functions_of_scripts(self):
        for _, chart, steps, lap in some_laps(20):
            line = chart.line(*lap.pair)
            for share in (Ratio(1, 3), Ratio(-2), Ratio(1)):
                word, number, points = walked(chart, Script(walks.text_of(steps)), chart[lap.pair[0]].towards(chart[lap.pair[1]], share))
                self.assertEqual(lap.led(share), ("done", line.share(points[-1])) if word == "done" else (word, 1, number))

    def test_the_lap_and_the_line(self):
        lap = Lap(FIVE, Script(EXAMPLE))
        self.assertTrue(is_same(lap.led(-1, 2), ("at", 2, 1)))
        self.assertTrue(is_same(lap.led(1), ("at", 1, 1)))
        self.assertTrue(is_same(lap.led(-4), ("at", 1, 1)))
        self.assertTrue(is_same(lap.led(0, 30), ("done", Ratio(0))))
        self.assertTrue(is_same(lap.led(share=Ratio(0), many=30), ("done", Ratio(0))))
        lap = Lap(FIVE, Script("from d between a c\ntowards e between a b"))
        self.assertTrue(is_same(lap.led(-4), ("ever", 1, 1)))
        self.assertTrue(is_same(lap.led(Ratio(1, 2), 30), self.right(plain.FIVE, Script("from d between a c\ntowards e between a b").steps, lap, Fraction(1, 2), 30)))

    def test_numbers_with_many_figures(self):
        share = Ratio(10 ** 300 + 1, 3 ** 500)
        for marks, _, steps, lap in some_laps(8):
            self.right(marks, steps, lap, Fraction(10 ** 300 + 1, 3 ** 500), 30)
            lap.led(share, 30)

    def test_refused(self):
        lap = Lap(FIVE, Script(EXAMPLE))
        for value in [*values_of_all_classes(), "1", nested(3)]:
            if type(value) is not int and type(value) is not Ratio:
                self.refused(BadNumber, value, lap.led, value)
                self.refused(BadNumber, value, lap.led, value, None)
                self.refused(BadNumber, value, lap.led, share=value, many=31)
            if type(value) is not int or not 1 <= value <= 30:
                self.refused(BadNumber, value, lap.led, 0, value)
                self.refused(BadNumber, value, lap.led, many=value, share=Ratio(1, 2))
                self.refused(BadNumber, value, lap.starts, value)
                self.refused(BadNumber, value, lap.starts, many=value)
        for value in (True, False, 0, 31, -1, Ratio(1), 1000):
            self.refused(BadNumber, value, lap.led, 0, value)
            self.refused(BadNumber, value, lap.starts, value)
        self.assertEqual((lap.led(0, 1), lap.led(0), lap.starts(1)), (lap.led(0), lap.led(0, many=1), lap.starts()))


class Starts(Case):

    def in_form(self, stretches):
        self.assertIs(type(stretches), tuple)
        for stretch in stretches:
            self.assertEqual((type(stretch), len(stretch)), (tuple, 2))
            for end in stretch:
                self.assertTrue(end is None or (type(end), type(end[0]), type(end[1]), len(end)) == (tuple, Ratio, bool, 2))
        for (_, high), (low, _) in zip(stretches, stretches[1:]):
            self.assertTrue(high[0] < low[0] or (high[0] == low[0] and not high[1] and not low[1]))

    def right(self, marks, steps, lap, many):
        """Just from the shares that are told so many laps are done, close to all their ends, too."""
        told = lap.starts(many)
        self.in_form(told)
        for share in [share for stretch in told for share in walks.shares_of(stretch)]:
            self.assertEqual(led(marks, steps, lap.pair, share, many)[0], "done", (marks, steps, share, many))
        outside = [Fraction(number, under) for number in range(-6, 7) for under in (1, 5)] + [Fraction(900), Fraction(-900)]
        for share in walks.shares_outside(told) + [share for share in outside if not any(walks.is_within(stretch, share) for stretch in told)]:
            self.assertNotEqual(led(marks, steps, lap.pair, share, many)[0], "done", (marks, steps, share, many))
        return told

    def test_one_to_thirty_laps(self):
        several = endless = empty = 0
        for marks, _, steps, lap in some_laps(120):
            for many in (1, 2, 3, 30):
                told = self.right(marks, steps, lap, many)
                several, empty = several + (len(told) > 1), empty + (told == ())
                endless += any(end is None for stretch in told for end in stretch)
        self.assertTrue(several and endless and empty)

    def test_fewer_with_each_lap(self):
        for _, _, _, lap in some_laps(40):
            ahead = lap.starts()
            for many in range(2, 31):
                told = lap.starts(many=many)
                for share in [share for stretch in told for share in walks.shares_of(stretch)]:
                    self.assertTrue(any(walks.is_within(stretch, share) for stretch in ahead))
                ahead = told

    def test_there_and_back(self):
        # From one line to another one through e, and back through it: all that comes there comes back.
        marks = {"a": (0, 0), "b": (6, 0), "c": (1, 3), "d": (5, 2), "e": (3, 7)}
        lap = Lap(plain.chart_of(marks), Script("towards e until c d\nfrom e until a b"))
        self.assertEqual((lap.table, lap.turns, lap.fixed), ((1, 0, 0, 1), 1, (0, 0, 0)))
        for many in (1, 2, 30):
            told = self.right(marks, Script("towards e until c d\nfrom e until a b").steps, lap, many)
            self.assertEqual(told, lap.starts())
        self.assertIsNone(lap.starts()[0][0])

    def test_by_hand(self):
        lap = Lap(FIVE, Script(EXAMPLE))
        self.assertTrue(is_same(lap.starts(30), (((Ratio(0), True), (Ratio(0), True)),)))
        for marks, text, *_ in TURNS:
            for many in (1, 2, 6, 30):
                self.right(marks, Script(text).steps, Lap(plain.chart_of(marks), Script(text)), many)

    def test_nothing_changes(self):
        for _, chart, steps, lap in some_laps(10):
            first = lap.starts(3), lap.led(Ratio(1, 2), 2), lap.starts(), lap.table
            lap.starts(30)
            self.assertEqual((lap.starts(3), lap.led(Ratio(1, 2), 2), lap.starts(), lap.table), first)
            again = Lap(chart, Script(walks.text_of(steps)))
            self.assertEqual((again.starts(3), again.led(Ratio(1, 2), 2), again.starts(), again.table), first)


if __name__ == "__main__":
    unittest.main()
