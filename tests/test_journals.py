"""Point 18 as far as journals are told, and what point 3 (f) says of them."""

import itertools
import random
import unittest
from fractions import Fraction

from seenabout.desk import Desk
from seenabout.errors import BadJournal
from seenabout.journals import journal, read_journal
from seenabout.points import Point
from seenabout.ratios import Ratio
from seenabout.walkers import Walker
from tests import plain, walks
from tests.model import Model, Refused
from tests.wrong import Case, is_same, values_of_all_classes

TRIANGLE = plain.chart_of(plain.TRIANGLE)
LINES = ["mark a 0 0", "mark b 4 0", "mark c 0 4", "at 1 1", "go 3 3", "from c until a b", "go -1 -1/2"]


def number_by_hand(text):
    """The number of BadJournal for a string, or 0 if it is a journal."""
    lines = text.split("\n")
    begins = [number for number, line in enumerate(lines) if line.split(" ")[0] == "at"]
    if not begins:
        return len(lines) + 1
    ahead, marks = lines[:begins[0]], {}
    for number, line in enumerate(ahead):
        words = line.split(" ")
        try:
            x, y = [int(word) for word in words[2:]]
            right = words == ["mark", words[1], str(x), str(y)] and words[1].isalpha() and words[1].islower() and len(words[1]) <= 8 and max(abs(x), abs(y)) <= 999
        except (ValueError, IndexError):
            right = False
        if not right or words[1] in marks or (x, y) in marks.values() or len(marks) == 7:
            return number + 1
        if any(plain.height(one, other, (x, y)) == 0 for one, other in itertools.combinations(marks.values(), 2)):
            return number + 1
        marks[words[1]] = (x, y)
    if len(marks) < 3:
        return len(ahead) + 1
    model = None
    for number, line in enumerate(lines[begins[0]:], start=begins[0] + 1):
        words = line.split(" ")
        if words[0] in ("at", "go"):
            at = place_by_hand(words[1:])
            if at is None or (words[0] == "at") != (model is None):
                return number
            if model is None and at in marks.values():
                return number
            deed = (lambda here: model.go(here)) if model is not None else None
        else:
            form = len(words) == 5 and words[0] in ("towards", "from") and words[2] in ("until", "between") and words[3] != words[4]
            if not form or not all(word.isalpha() and word.islower() and len(word) <= 8 for word in (words[1], *words[3:])):
                return number
            at, deed = line, lambda line: model.step(line)
        try:
            if model is None:
                model = Model(marks, at)
            else:
                deed(at)
        except Refused:
            return number
    return 0


def place_by_hand(words):
    """The place of two words, each a number as Ratios write it, or None."""
    found = []
    for word in words:
        try:
            number = Fraction(word)
        except (ValueError, ZeroDivisionError):
            return None
        if str(number) != word:
            return None
        found.append(number)
    return tuple(found) if len(found) == 2 else None


class Journals(Case):

    def test_journal(self):
        walker = Walker(TRIANGLE, Point(1, Ratio(2, 3)))
        text = TRIANGLE.text + "\nat 1 2/3"
        self.assertEqual(journal(walker), text)
        walker.go(Point(3, 3))
        walker.step("from c until b a")
        walker.step("from c until b a")
        walker.go(Point(-1, Ratio(-1, 2)))
        text += "\ngo 3 3\nfrom c until b a\nfrom c until b a\ngo -1 -1/2"
        self.assertEqual(journal(walker=walker), text)
        walker.undo()
        self.assertEqual(journal(walker), text.rpartition("\n")[0])
        walker.redo()
        self.assertEqual(journal(walker), text)
        walker.undo()
        walker.undo()
        walker.go(Point(5, 5))
        self.assertEqual(journal(walker).split("\n")[5:], ["from c until b a", "go 5 5"])
        self.assertIs(type(journal(walker)), str)

    def test_there_and_back(self):
        for told, marks in zip(walks.seeds(8), itertools.cycle([plain.TRIANGLE, plain.SQUARE, plain.FIVE, plain.HOUSE, plain.SEVEN_FLAT])):
            chart, places = plain.chart_of(marks), plain.places_everywhere(marks)
            walker = Walker(chart, plain.point(told.choice(places)))
            for _ in range(15):
                self.deed(told, walker, places, list(marks))
                text = journal(walker)
                again = read_journal(text)
                self.assertEqual(journal(again), text)
                self.assertTrue(again == walker)
                self.assertTrue(is_same((again.point, again.done, again.log, again.first, again.chart.text),
                                        (walker.point, walker.done, walker.log, walker.first, chart.text)))
                self.assertEqual(number_by_hand(text), 0)

    def deed(self, told, walker, places, names):
        call, *arguments = told.choice([(walker.undo,), (walker.redo,), (walker.go, plain.point(told.choice(places))), (walker.go, plain.point(told.choice(places))),
                                        (walker.step, " ".join(walks.drawn_step(names, told))), (walker.step, " ".join(walks.drawn_step(names, told)))])
        try:
            call(*arguments)
        except ValueError:
            pass

    def test_numbers_with_many_figures(self):
        walker = Walker(TRIANGLE, Point(Ratio(10 ** 5000 + 1, 3), Ratio(-7, 2 ** 9000)))
        walker.go(Point(1, 1))
        again = read_journal(journal(walker))
        self.assertTrue(again == walker)
        self.assertEqual(again.log, walker.log)


class Refusals(Case):

    def wrong(self, number, text):
        for make in (read_journal, Desk):
            with self.assertRaises(BadJournal) as caught:
                make(text)
            self.assertIs(type(caught.exception), BadJournal)
            self.assertTrue(is_same(caught.exception.value, number), (text, caught.exception.value))
        if isinstance(text, str):
            self.assertEqual(number_by_hand(text), number, text)

    def test_right(self):
        for many in range(4, len(LINES) + 1):
            text = "\n".join(LINES[:many])
            self.assertEqual(journal(read_journal(text=text)), text)
            self.assertEqual(number_by_hand(text), 0)

    def test_no_string(self):
        for value in [*values_of_all_classes(), "\n".join(LINES).encode(), LINES, Walker(TRIANGLE, Point(1, 1))]:
            if not isinstance(value, str):
                self.wrong(0, value)

    def test_no_line_at(self):
        self.wrong(2, "")
        self.wrong(2, "mark a 0 0")
        self.wrong(4, "\n".join(LINES[:3]))
        self.wrong(7, "\n".join(LINES[:3] + LINES[4:]))
        self.wrong(5, "\n\n\n")
        for line in ["atlas 1 1", "att", "attt 1 1", "At 1 1", "AT", "at1 1", " at 1 1", "go at 1 1", "at,1 1", "mat 1 1", "a t 1 1"]:
            self.wrong(5, "\n".join(LINES[:3] + [line]))
            self.wrong(2, line)
            self.wrong(8, "\n".join(LINES[:3] + [line] + LINES[4:]))

    def test_a_line_at_with_nothing_or_more_behind_it(self):
        for line in ["at", "at ", "at  1 1", "at 1", "at 1 1 1", "at 1 1 ", "at 1  1", "at x y", "at 01 1", "at 1 -0", "at 2/4 1", "at 1 1/1", "at 1.0 1", "at +1 1", "at at 1",
                     "at (1, 1)", "at 1,1", "at 1/0 1", "at 1 -1/-2", "at a"]:
            self.wrong(4, "\n".join(LINES[:3] + [line]))
            self.wrong(4, "\n".join(LINES[:3] + [line] + LINES[4:]))
            self.wrong(4, "\n".join(LINES[:3] + [line, "at 1 1"]))
            # The chart ahead of it comes first.
            self.wrong(2, "\n".join(["mark a 0 0", line]))
            self.wrong(1, line)

    def test_wrong_charts(self):
        self.wrong(1, "at 1 1")
        self.wrong(2, "mark a 0 0\nat 1 1")
        self.wrong(3, "mark a 0 0\nmark b 4 0\nat 1 1")
        self.wrong(3, "mark a 0 0\nmark b 4 0\nat 0 0\nmark c 0 4")
        self.wrong(3, "mark a 0 0\nmark b 4 0\nmark c 8 0\nat 1 1")
        self.wrong(2, "mark a 0 0\nmark a 4 0\nmark c 8 0\nat 1 1")
        self.wrong(2, "mark a 0 0\nmark b 04 0\nmark c 0 4\nat 1 1")
        self.wrong(4, "\n".join(LINES[:3] + [""] + LINES[3:]))
        self.wrong(1, "\n" + "\n".join(LINES))
        self.wrong(4, "\n".join(LINES[:3] + ["go 1 1"] + LINES[3:]))
        self.wrong(8, plain.text_of(plain.SEVEN) + "\nmark h 200 -3\nat 1 1")
        self.wrong(1, "atlas\n" + "\n".join(LINES))

    def test_a_first_place_at_a_mark(self):
        for place in ["0 0", "4 0", "0 4"]:
            self.wrong(4, "\n".join(LINES[:3] + ["at " + place]))
            self.wrong(4, "\n".join(LINES[:3] + ["at " + place] + LINES[4:]))

    def test_deeds_that_are_refused(self):
        for line in ["go 1 1", "go 0 0", "go 4 0", "go -1 -1", "towards c until a b", "from c until a b", "towards a until a b", "towards x until a b", "from c until a y",
                     "from a until a b"]:
            self.wrong(5, "\n".join(LINES[:4] + [line]))
            self.wrong(5, "\n".join(LINES[:4] + [line] + LINES[4:]))
        self.wrong(6, "\n".join(LINES[:4] + ["go 2 2", "go 2 2", "go 2 2"]))
        self.wrong(6, "\n".join(LINES[:4] + ["go 9 1", "go 0 0", "x"]))

    def test_lines_without_form(self):
        for line in ["", " ", "go", "go ", "go 1", "go 5 5 5", "go 5 5 ", " go 5 5", "go  5 5", "go 5  5", "go 5.0 5", "go 05 5", "go 10/2 5", "Go 5 5", "at 5 5", "at", "undo", "redo",
                     "round", "place", "side a b", "known a b", "mark d 5 5", "skip 1 left a b", "towards c until a", "from c between a b ", "from c between a a",
                     "from c between  a b", "From c between a b", "from C between a b", "goto 5 5", "go five five", "x", "keep"]:
            for many in (4, 5, 7):
                self.wrong(many + 1, "\n".join(LINES[:many] + [line]))
                self.wrong(many + 1, "\n".join(LINES[:many] + [line, "go 5 6", "x"]))

    def test_a_line_feed_or_a_blank_at_the_end(self):
        for many in (4, 5, 6, 7):
            self.wrong(many + 1, "\n".join(LINES[:many]) + "\n")
            self.wrong(many, "\n".join(LINES[:many]) + " ")
            self.wrong(many + 1, "\n".join(LINES[:many]) + "\n\n")

    def test_lines_out_twice_exchanged_or_otherwise(self):
        told = random.Random(21)
        some = [LINES, plain.text_of(plain.FIVE).split("\n") + ["at -1/3 2", "go 7 -1", "from e until a b", "from e until b c", "go 2 2"]]
        for lines in some:
            texts = []
            for at, line in enumerate(lines):
                texts.extend(["\n".join(lines[:at] + more + lines[at + 1:]) for more in ([], [line, line], [line + "x"], [line + " "], ["x" + line], [line.upper()], [""])])
                for word, other in itertools.product(range(len(line.split(" "))), ["", "a", "b", "0", "1", "-1", "at", "go", "until", "1/2", "from", "mark"]):
                    words = line.split(" ")
                    texts.append("\n".join(lines[:at] + [" ".join(words[:word] + [other] + words[word + 1:])] + lines[at + 1:]))
                for sign in range(len(line)):
                    texts.append("\n".join(lines[:at] + [line[:sign] + told.choice("ab01 -/\nt") + line[sign + 1:]] + lines[at + 1:]))
            texts.extend("\n".join(lines[:one] + [lines[other]] + lines[one + 1:other] + [lines[one]] + lines[other + 1:])
                         for one, other in itertools.combinations(range(len(lines)), 2))
            for text in texts:
                number = number_by_hand(text)
                if number:
                    self.wrong(number, text)
                else:
                    self.assertEqual(journal(read_journal(text)), text)


if __name__ == "__main__":
    unittest.main()
