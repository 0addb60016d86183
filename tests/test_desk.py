"""Point 18 as far as desks are told."""

import itertools
import unittest

from seenabout import errors
from seenabout.charts import Chart
from seenabout.desk import Desk
from seenabout.errors import AtMark, BadJournal, BadPoint, BadSay, Lost, NoMark, NothingToRedo, NothingToUndo, OverMark
from seenabout.journals import journal
from seenabout.logs import known
from seenabout.points import Point
from seenabout.scripts import Script
from seenabout.walkers import Walker
from tests import plain, walks
from tests.model import Model, Refused
from tests.wrong import Case, is_same, values_of_all_classes

START = plain.text_of(plain.TRIANGLE) + "\nat 1 1"
SIDES = {1: "left", 0: "on", -1: "right"}


def desk_at(marks, at):
    return Desk(plain.text_of(marks) + "\nat " + plain.point(at).text)


class DeskCase(Case):

    def no(self, error, value, desk, line):
        """A line is refused with just this error, and nothing is changed."""
        before = journal(desk.walker), desk.walker.log, desk.walker
        with self.assertRaises(errors.AboutError) as caught:
            desk.say(line)
        self.assertIs(type(caught.exception), error)
        self.assertTrue(caught.exception.value is value or is_same(caught.exception.value, value), (line, caught.exception.value))
        self.assertEqual((journal(desk.walker), desk.walker.log), before[:2])
        self.assertIs(desk.walker, before[2])


class Created(DeskCase):

    def test_walker(self):
        text = START + "\nfrom c between a b\ngo 9 1"
        desk = Desk(text=text)
        self.assertIs(type(desk.walker), Walker)
        self.assertEqual((journal(desk.walker), desk.walker.done), (text, 2))

    def test_bad_journals(self):
        for text, number in [("", 2), (None, 0), (START + "\n", 5), (START + "\ngo 1 1", 5), ("at 1 1", 1), (START[:-1], 4), (START.replace("b 4 0", "b 0 0"), 2)]:
            with self.assertRaises(BadJournal) as caught:
                Desk(text)
            self.assertTrue(is_same(caught.exception.value, number), text)


class Said(DeskCase):

    def answers(self, desk, *pairs):
        for line, answer in pairs:
            self.assertTrue(is_same(desk.say(line), answer), (line, answer))

    def test_example(self):
        desk = Desk(START + "\nfrom c between a b")
        self.answers(desk, ("place", "4/3 0"), ("round", "a b c"), ("side a b", "on"), ("known a b", "open"), ("go -1 -1/2", "done"), ("round", "a c b"),
                     ("known b a", "open"), ("undo", "done"))
        self.assertEqual(journal(desk.walker).split("\n")[3:], ["at 1 1", "from c between a b"])
        self.assertEqual(desk.say(line="place"), "4/3 0")

    def test_each_line(self):
        desk = Desk(START)
        self.answers(desk, ("place", "1 1"), ("round", "a b c"), ("go 6 0", "done"), ("round", "a=b c"), ("place", "6 0"), ("undo", "done"), ("place", "1 1"),
                     ("redo", "done"), ("place", "6 0"), ("from b until a b", "done"), ("place", "6 0"), ("undo", "done"), ("undo", "done"),
                     ("from c between a b", "done"), ("place", "4/3 0"))
        self.answers(Desk(START.replace("1 1", "-1/3 7/2")), ("place", "-1/3 7/2"), ("go -1/3 -7/2", "done"), ("place", "-1/3 -7/2"))

    def test_rounds(self):
        marks = {"a": (0, 0), "b": (2, 2), "c": (4, 0), "d": (4, 1)}
        self.answers(desk_at(marks, (9, 9)), ("round", "a=b d c"))
        self.answers(desk_at(marks, (4, -1)), ("round", "a c=d b"))
        for told, marks in zip(walks.seeds(3), [plain.SQUARE, plain.FIVE, plain.SEVEN_FLAT]):
            for at in told.sample(plain.places_everywhere(marks), 12):
                self.answers(desk_at(marks, at), ("round", " ".join("=".join(group) for group in plain.about(marks, at))), ("place", plain.point(at).text))

    def test_sides(self):
        for marks in [plain.TRIANGLE, plain.SQUARE, plain.FIVE]:
            for at in plain.places_everywhere(marks)[::5]:
                desk = desk_at(marks, at)
                for one, other in itertools.permutations(marks, 2):
                    self.answers(desk, (f"side {one} {other}", SIDES[plain.sign(plain.height(marks[one], marks[other], at))]))

    def test_known(self):
        words = set()
        for told, marks in zip(walks.seeds(9), itertools.cycle([plain.TRIANGLE, plain.SQUARE, plain.INNER])):
            places = plain.places_everywhere(marks)
            desk = desk_at(marks, told.choice(places))
            for _ in range(4):
                log = desk.walker.log[-20:]
                _, here = plain.on_logs(marks, log)
                for number, (one, other) in enumerate(plain.pairs(marks)):
                    some = {cell[number] for cell in here}
                    answer = SIDES[some.pop()] if len(some) == 1 else "open"
                    back = {"left": "right", "right": "left"}.get(answer, answer)
                    self.answers(desk, (f"known {one} {other}", answer), (f"known {other} {one}", back))
                    words.add(answer)
                try:
                    desk.say("go " + plain.point(told.choice(places)).text)
                except OverMark:
                    pass
                except BadPoint:
                    pass
        self.assertEqual(words, {"left", "right", "on", "open"})

    def test_long_logs(self):
        # The last twenty rounds alone: what the first ones told is not known any more.
        desk = Desk(START.replace("1 1", "6 0"))
        for number in range(12):
            desk.say("go 6 -1" if number % 2 == 0 else "go 6 1")
        self.assertGreater(len(desk.walker), 20)
        chart, log = desk.walker.chart, desk.walker.log
        for number, (one, other) in enumerate(chart.pairs):
            told = known(chart, log[-20:])[number]
            self.answers(desk, (f"known {one} {other}", "open" if told is None else SIDES[told]))
        desk = Desk(START.replace("1 1", "6 0"))
        for _ in range(20):
            desk.say("go 6 -1")
            desk.say("go 6 0")
        self.assertEqual(len(desk.walker), 41)
        self.answers(desk, ("known a b", "on"), ("round", "a=b c"))
        desk.say("go 6 1")
        self.answers(desk, ("side a b", "left"))

    def test_the_last_twenty_rounds_and_no_others(self):
        # The first round alone tells that one is beyond a, and not beyond b.
        desk = Desk(START.replace("1 1", "0 -5"))
        self.answers(desk, ("round", "a=c b"), ("go -3 -3", "done"), ("round", "a c b"))
        while len(desk.walker) < 20:
            self.answers(desk, ("go -5 0", "done"), ("known b c", "left"), ("known a c", "left"), ("go -3 -3", "done"), ("known b c", "left"), ("known c a", "right"))
        self.assertEqual(len(desk.walker), 20)
        self.answers(desk, ("known b c", "left"), ("known a c", "left"), ("known a b", "right"), ("go -5 0", "done"))
        self.assertEqual(len(desk.walker), 21)
        self.answers(desk, ("known b c", "open"), ("known a c", "open"), ("known a b", "on"), ("go -3 -3", "done"))
        self.answers(desk, ("known b c", "open"), ("known a c", "open"), ("known a b", "right"))

class Refusals(DeskCase):

    def test_what_has_no_form(self):
        desk = Desk(START + "\ngo 2 1")
        lines = ["", " ", "go", "go 1", "go 1 2 3", "go 5 5 ", " go 5 5", "go  5 5", "go 5  5", "go 05 5", "go 2/4 1", "go 1.0 1", "go x y", "Go 5 5", "undo ", " undo", "Undo", "undo 1",
                 "redo ", "redo redo", "round ", "round a", "Round", "place ", "place 1", " place", "side", "side a", "side a b c", "side  a b", "side a  b", "side a b ", "side A b",
                 "side a B", "side a b1", "side a abcdefghi", "side a", "sides a b", "known", "known a", "known a b c", "known A b", "known a abcdefghi", "known a b\n", "know a b",
                 "skip 1 left a b", "towards c until a", "towards c until a a", "towards  c until a b", "from c between a b ", "from C between a b", "at 1 1", "mark d 5 5", "keep", "done",
                 "undo\nredo", "place\n", "go 1 2\n", "from c between a b\n", "side a b\nside a b"]
        for value in [*values_of_all_classes(), *lines, ["place"], ("go", "5", "5"), ("side", "a", "b"), b"place", Point(5, 5), Script("from c between a b"), desk.walker]:
            self.no(BadSay, value, desk, value)
        self.assertEqual(desk.say("place"), "2 1")

    def test_no_mark(self):
        desk = Desk(START)
        for word in ("side", "known"):
            for one, other, name in [("x", "y", "x"), ("x", "a", "x"), ("a", "y", "y"), ("a", "a", "a"), ("x", "x", "x"), ("c", "c", "c"), ("abcdefgh", "a", "abcdefgh")]:
                self.no(NoMark, name, desk, f"{word} {one} {other}")
        self.no(NoMark, "x", desk, "from x between a b")
        self.no(NoMark, "y", desk, "from a between b y")

    def test_what_the_walker_raises(self):
        desk = Desk(START)
        self.no(NothingToUndo, None, desk, "undo")
        self.no(NothingToRedo, None, desk, "redo")
        self.no(BadPoint, Point(1, 1), desk, "go 1 1")
        self.no(AtMark, "a", desk, "go 0 0")
        self.no(OverMark, "a", desk, "go -1 -1")
        self.no(Lost, "at", desk, "towards c until a b")
        self.no(Lost, "ever", desk, "from c until a b")
        self.no(AtMark, "b", desk, "towards b until a b")
        desk.say("go 5 5")
        desk.say("undo")
        for line in ["go 0 0", "go x y", "side a a", "known x y", "towards c until a b", "", "undo"]:
            with self.assertRaises(errors.AboutError):
                desk.say(line)
        # What was taken back can still be done again.
        self.assertEqual([desk.say("redo"), desk.say("place")], ["done", "5 5"])


class Live(DeskCase):

    def test_beside_a_walker_by_hand(self):
        for told, marks in zip(walks.seeds(6), itertools.cycle([plain.TRIANGLE, plain.SQUARE, plain.FIVE])):
            places, names = plain.places_everywhere(marks), list(marks)
            first = told.choice(places)
            desk, model = desk_at(marks, first), Model(marks, first)
            for _ in range(30):
                line, call, arguments = told.choice([("undo", model.undo, ()), ("redo", model.redo, ()), self.going(told, model, places), self.stepping(told, model, names)])
                try:
                    call(*arguments)
                except Refused as refused:
                    self.no(getattr(errors, refused.error), refused.value, desk, line)
                else:
                    self.assertEqual(desk.say(line), "done")
                self.assertEqual(journal(desk.walker), model.journal())
                self.assertEqual(desk.say("place"), plain.point(model.here()).text)
                self.assertEqual(desk.say("round"), " ".join("=".join(group) for group in model.log()[-1]))

    def going(self, told, model, places):
        at = told.choice(places)
        return "go " + plain.point(at).text, model.go, (at,)

    def stepping(self, told, model, names):
        line = " ".join(walks.drawn_step(names, told))
        return line, model.step, (line,)

    def test_the_walker_and_the_desk_are_one(self):
        desk = Desk(START)
        desk.walker.go(Point(6, 0))
        self.assertEqual(desk.say("round"), "a=b c")
        desk.say("undo")
        self.assertEqual(desk.walker.point, Point(1, 1))
        self.assertEqual(desk.walker.chart, Chart(plain.text_of(plain.TRIANGLE)))
        self.assertEqual(desk.walker.done, 0)


if __name__ == "__main__":
    unittest.main()
