"""Point 17, and what points 2 and 3 say of it."""

import itertools
import random
import unittest
from fractions import Fraction

from seenabout import errors
from seenabout.errors import AtMark, BadLine, BadPoint, Lost, NoMark, NoTrial, NothingToRedo, NothingToUndo, OverMark
from seenabout.journals import journal
from seenabout.points import Point
from seenabout.ratios import Ratio
from seenabout.scripts import Script, walked
from seenabout.sights import about, sides
from seenabout.walkers import Walker
from seenabout.ways import seen_on
from tests import plain, walks
from tests.model import Model, Refused
from tests.wrong import Case, is_same, values_of_all_classes

TRIANGLE = plain.chart_of(plain.TRIANGLE)
FIVE = plain.chart_of(plain.FIVE)
CHARTS = [plain.TRIANGLE, plain.SQUARE, plain.INNER, plain.FIVE, plain.HOUSE, plain.SEVEN_FLAT]


def all_of(walker):
    """All that a walker tells."""
    return (journal(walker), walker.chart, walker.first, walker.point, walker.done, walker.log, len(walker))


def redone(walker):
    """What can be done again: the journals to which redo leads, one by one; the walker itself stays as it is."""
    other, told = walker.copy(), []
    while True:
        try:
            other.redo()
        except NothingToRedo:
            return told
        told.append(journal(other))


def started():
    """A walker with deeds that stand and others that were taken back."""
    walker = Walker(TRIANGLE, Point(1, 1))
    walker.go(Point(3, 3))
    walker.step("from c until a b")
    walker.go(Point(-1, -2))
    walker.go(Point(9, 9))
    walker.undo()
    walker.undo()
    return walker


class WalkerCase(Case):

    def alike(self, walker, model):
        """A walker tells what is reckoned by hand."""
        chart = walker.chart
        self.assertEqual(journal(walker), model.journal())
        self.assertTrue(is_same(walker.log, model.log()))
        self.assertTrue(is_same((walker.done, len(walker)), (len(model.deeds), len(model.log()))))
        self.assertTrue(is_same((walker.first, walker.point), (plain.point(model.first), plain.point(model.here()))))
        # A walker sees what the functions tell.
        self.assertEqual(walker.log[-1], about(chart, walker.point))
        self.assertIs(about(chart, walker.point) in walker, True)

    def unchanged(self, walker, call, *arguments, **named):
        """What a call raises; it changes nothing."""
        before = all_of(walker), redone(walker)
        with self.assertRaises(errors.AboutError) as caught:
            call(*arguments, **named)
        self.assertEqual((all_of(walker), redone(walker)), before)
        return caught.exception

    def no(self, error, value, walker, call, *arguments, **named):
        """A call raises just this error with this value, and changes nothing."""
        found = self.unchanged(walker, call, *arguments, **named)
        self.assertIs(type(found), error)
        self.assertTrue(found.value is value or is_same(found.value, value), found.value)


class Created(WalkerCase):

    def test_attributes(self):
        point = Point(1, 1)
        walker = Walker(TRIANGLE, point)
        self.assertIs(walker.chart, TRIANGLE)
        self.assertTrue(is_same((walker.first, walker.point, walker.done, walker.log, len(walker)), (point, point, 0, ((("a",), ("b",), ("c",)),), 1)))
        self.assertEqual(Walker(point=point, chart=TRIANGLE), walker)

    def test_refused(self):
        for value in values_of_all_classes():
            if type(value) is not Point:
                self.refused(BadPoint, value, Walker, TRIANGLE, value)
                self.refused(BadPoint, value, Walker, point=value, chart=TRIANGLE)
        for name, at in plain.FIVE.items():
            with self.assertRaises(AtMark) as caught:
                Walker(FIVE, plain.point(at))
            self.assertTrue(is_same(caught.exception.value, name))

    def test_in(self):
        walker = Walker(TRIANGLE, Point(1, 1))
        walker.go(Point(-1, -2))
        plain_round, corner, turned = walker.log
        for value in walker.log:
            self.assertIs(value in walker, True)
        for value in [*values_of_all_classes(), (("a", "b"), ("c",)), [["a"], ["b"], ["c"]], list(plain_round), (["a"], ["b"], ["c"]), "a b c", walker.log, ("a", "b", "c")]:
            if not is_same(value, plain_round):
                self.assertIs(value in walker, False)
        walker.undo()
        self.assertEqual([value in walker for value in (plain_round, corner, turned)], [True, False, False])


class Goes(WalkerCase):

    def test_near_and_far(self):
        for marks in CHARTS:
            chart, told = plain.chart_of(marks), random.Random(7)
            places = [at for at in plain.places_everywhere(marks) if told.random() < 0.3 or max(number.denominator for number in at) < 1000]
            for _ in range(4):
                first = told.choice(places)
                walker, model = Walker(chart, plain.point(first)), Model(marks, first)
                for goal in told.sample(places, 4) + [(told.randint(-10 ** 6, 10 ** 6), Fraction(1, 7))]:
                    self.same_deed(walker, model, "go", plain.point(goal), goal)

    def same_deed(self, walker, model, name, argument, by_hand):
        try:
            wanted = getattr(model, name)(by_hand)
        except Refused as refused:
            self.no(getattr(errors, refused.error), refused.value, walker, getattr(walker, name), argument)
            return
        before = walker.log
        told = getattr(walker, name)(argument)
        self.assertTrue(is_same(told, wanted))
        self.assertEqual(walker.log, before + told)
        self.alike(walker, model)

    def test_what_go_returns(self):
        walker = Walker(TRIANGLE, Point(1, 1))
        self.assertTrue(is_same(walker.go(Point(2, 1)), ()))
        self.assertTrue(is_same(walker.go(Point(-1, -2)), ((("a", "c"), ("b",)), (("a",), ("c",), ("b",)))))
        # Along a line, and through a crossing of two lines.
        self.assertTrue(is_same(walker.go(point=Point(-1, 0)), ((("a", "b"), ("c",)),)))
        self.assertTrue(is_same(walker.go(Point(-5, 0)), ()))
        square = Walker(plain.chart_of(plain.SQUARE), Point(1, 2))
        self.assertEqual(square.go(Point(3, 2)), seen_on(square.chart, Point(1, 2), Point(3, 2))[1:])
        self.assertEqual(square.go(Point(2, 2)), seen_on(square.chart, Point(3, 2), Point(2, 2))[1:])

    def test_where_one_is(self):
        walker = started()
        for point in [walker.point, Point(walker.point.x, walker.point.y)]:
            self.no(BadPoint, point, walker, walker.go, point)
        walker.go(Point(1, 1))
        self.no(BadPoint, Point(1, 1), walker, walker.go, Point(1, 1))

    def test_no_point(self):
        walker = started()
        for value in values_of_all_classes():
            if type(value) is not Point:
                self.no(BadPoint, value, walker, walker.go, value)
                self.no(BadPoint, value, walker, walker.go, point=value)

    def test_to_marks_and_over_marks(self):
        walker = started()
        for name, at in plain.TRIANGLE.items():
            self.no(AtMark, name, walker, walker.go, plain.point(at))
        walker = Walker(TRIANGLE, Point(-1, 0))
        self.no(OverMark, "a", walker, walker.go, Point(9, 0))
        self.no(OverMark, "a", walker, walker.go, Point(1, 0))
        # A mark at the end comes ahead of those on the way.
        self.no(AtMark, "b", walker, walker.go, Point(4, 0))
        walker = Walker(TRIANGLE, Point(9, 0))
        self.no(OverMark, "b", walker, walker.go, Point(-9, 0))


class Steps(WalkerCase):

    same_deed = Goes.same_deed

    def test_beside_steps_by_hand(self):
        many = {"done": 0, "Lost": 0, "AtMark": 0, "OverMark": 0}
        for told, marks in zip(walks.seeds(len(CHARTS)), CHARTS):
            chart, names = plain.chart_of(marks), list(marks)
            for _ in range(12):
                first = told.choice([at for at in plain.places_everywhere(marks)[::5] + [(3, 1), (-2, 5)] if at not in marks.values()])
                walker, model = Walker(chart, plain.point(first)), Model(marks, first)
                for _ in range(10):
                    line = " ".join(walks.drawn_step(names, told))
                    try:
                        Model.step(model_of(model), line)
                        many["done"] += 1
                    except Refused as refused:
                        many[refused.error] += 1
                    self.same_deed(walker, model, "step", line, line)
        self.assertTrue(all(many.values()), many)

    def test_what_step_returns(self):
        walker = Walker(TRIANGLE, Point(3, 3))
        self.assertTrue(is_same(walker.step(line="from c until a b"), ((("a", "b"), ("c",)),)))
        self.assertEqual(walker.point, Point(12, 0))
        # Here one stands on its piece at once: that is a deed, too.
        self.assertTrue(is_same(walker.step("from c until a b"), ()))
        self.assertEqual((walker.done, walker.point, len(walker)), (2, Point(12, 0), 2))
        walker.undo()
        walker.undo()
        self.assertEqual((walker.point, len(walker)), (Point(3, 3), 1))
        walker.redo()
        walker.redo()
        self.assertEqual(journal(walker).split("\n")[3:], ["at 3 3", "from c until a b", "from c until a b"])

    def test_steps_of_scripts(self):
        # Line by line a walker does what walked tells of a script.
        for told, marks in zip(walks.seeds(4), [plain.SQUARE, plain.FIVE, plain.HOUSE, plain.INNER]):
            chart = plain.chart_of(marks)
            for _ in range(25):
                steps = [step for step in walks.led_script(marks, 4, told) if step[0] != "skip"]
                walker = Walker(chart, plain.point((told.randint(-9, 9), Fraction(told.randint(-9, 9)) + Fraction(1, 3))))
                for step in steps:
                    word, _, points = walked(chart, Script(walks.text_of([step])), walker.point)
                    try:
                        walker.step(walks.text_of([step]))
                    except errors.AboutError as error:
                        self.assertEqual(word == "done", type(error) is not Lost)
                        break
                    self.assertEqual(walker.point, points[-1])

    def test_lost(self):
        walker = Walker(TRIANGLE, Point(1, 1))
        self.no(Lost, "at", walker, walker.step, "towards c until a b")
        self.no(Lost, "ever", walker, walker.step, "from c until a b")
        self.no(Lost, "ever", walker, walker.step, "from a until a b")
        self.no(Lost, "ever", walker, walker.step, line="from b between a b")

    def test_at_marks(self):
        walker = Walker(TRIANGLE, Point(1, 1))
        self.no(AtMark, "a", walker, walker.step, "towards a until a b")
        self.no(AtMark, "b", walker, walker.step, "towards b between a b")
        walker = Walker(TRIANGLE, Point(2, 2))
        self.no(AtMark, "b", walker, walker.step, "from c until a b")
        # At the mark ends what goes over another one ahead of it, too.
        walker = Walker(TRIANGLE, Point(-3, 0))
        self.no(AtMark, "b", walker, walker.step, "towards b until b c")

    def test_over_marks(self):
        marks = {"a": (0, 0), "b": (2, 2), "c": (10, 0), "d": (0, 10)}
        chart = plain.chart_of(marks)
        self.no(OverMark, "b", *self.standing(chart, 1, 1), "from a between c d")
        self.no(OverMark, "b", *self.standing(chart, 1, 1), line="from a between d c")
        # Of two marks on the way the first one that is met.
        # Towards a mark over another one ahead of it; no mark is gone over by a step that ends ahead of it.
        marks = {"a": (0, 0), "b": (4, 4), "c": (3, 0), "d": (0, 3)}
        chart = plain.chart_of(marks)
        self.no(OverMark, "b", *self.standing(chart, 6, 6), "towards a between c d")
        walker, step = self.standing(chart, 2, 2)
        step("towards a between c d")
        self.assertEqual(walker.point, Point(Ratio(3, 2), Ratio(3, 2)))
        # Along the line of the pair itself.
        self.no(AtMark, "b", *self.standing(TRIANGLE, 9, 0), "towards a between a b")
        self.no(AtMark, "a", *self.standing(TRIANGLE, -1, 0), "towards b between a b")

    def standing(self, chart, x, y):
        walker = Walker(chart, Point(x, y))
        return walker, walker.step

    def test_no_line_of_a_step(self):
        walker = started()
        for value in [*values_of_all_classes(), "", "skip 1 left a b", "go 1 1", "undo", "towards", "towards c until a", "towards c until a a", "towards c until a b ",
                      " towards c until a b", "towards  c until a b", "towards c until a b\n", "towards c until a b\nfrom c until a b", "Towards c until a b", "from C until a b",
                      ("towards", "c", "until", "a", "b"), ["towards c until a b"], Script("towards c until a b"), "towards c left a b", "at 1 1", "from c until a abcdefghi"]:
            self.no(BadLine, value, walker, walker.step, value)
            self.no(BadLine, value, walker, walker.step, line=value)

    def test_no_mark(self):
        walker = started()
        for line, name in [("towards x until y z", "x"), ("towards a until y z", "y"), ("from a between b z", "z"), ("from x until a b", "x"), ("towards a until aa bb", "aa")]:
            self.no(NoMark, name, walker, walker.step, line)


def model_of(model):
    """Another model that stands where this one does."""
    other = Model(model.marks, model.first)
    other.restore(model.state())
    return other


class Undone(WalkerCase):

    def test_nothing_to_undo_or_to_redo(self):
        walker = Walker(TRIANGLE, Point(1, 1))
        self.no(NothingToUndo, None, walker, walker.undo)
        self.no(NothingToRedo, None, walker, walker.redo)
        walker.go(Point(2, 2))
        self.no(NothingToRedo, None, walker, walker.redo)
        self.assertIsNone(walker.undo())
        self.no(NothingToUndo, None, walker, walker.undo)
        self.assertIsNone(walker.redo())
        self.no(NothingToRedo, None, walker, walker.redo)

    def test_one_by_one(self):
        walker, told = Walker(TRIANGLE, Point(1, 1)), []
        told.append(all_of(walker))
        for point in [Point(3, 3), Point(-1, -2), Point(7, 1), Point(1, 1)]:
            walker.go(point)
            told.append(all_of(walker))
        for state in told[-2::-1]:
            walker.undo()
            self.assertEqual(all_of(walker), state)
        for state in told[1:]:
            walker.redo()
            self.assertEqual(all_of(walker), state)

    def test_a_new_deed_ends_it(self):
        walker = started()
        self.assertEqual(len(redone(walker)), 2)
        walker.go(Point(8, 8))
        self.no(NothingToRedo, None, walker, walker.redo)
        walker = started()
        walker.step("from c until a b")
        self.no(NothingToRedo, None, walker, walker.redo)

    def test_what_is_refused_ends_nothing(self):
        walker = started()
        for call, argument in [(walker.go, Point(0, 0)), (walker.go, None), (walker.go, walker.point), (walker.step, "x"), (walker.step, "towards x until a b"),
                               (walker.step, "towards b until b c"), (walker.step, "from a until a c")]:
            self.unchanged(walker, call, argument)
        walker.redo()
        walker.redo()
        self.assertEqual(walker.point, Point(9, 9))

    def test_in_any_sequence(self):
        for told, marks in zip(walks.seeds(12), itertools.cycle(CHARTS)):
            chart, places = plain.chart_of(marks), plain.places_everywhere(marks)
            first = told.choice(places)
            walker, model = Walker(chart, plain.point(first)), Model(marks, first)
            for _ in range(40):
                self.deed(told, walker, model, places)

    def deed(self, told, walker, model, places):
        """One deed, drawn as it comes, of both the walker and the model; whether it was done."""
        name = told.choice(["go", "go", "step", "step", "undo", "undo", "redo", "redo"])
        arguments, by_hand = (), ()
        if name == "go":
            by_hand = (told.choice(places),)
            arguments = (plain.point(by_hand[0]),)
        elif name == "step":
            arguments = by_hand = (" ".join(walks.drawn_step([*model.marks, "x"] if told.random() < 0.1 else list(model.marks), told)),)
        try:
            wanted = getattr(model, name)(*by_hand)
        except Refused as refused:
            self.no(getattr(errors, refused.error), refused.value, walker, getattr(walker, name), *arguments)
            return False
        self.assertTrue(is_same(getattr(walker, name)(*arguments), wanted))
        self.alike(walker, model)
        return True


class Left(Exception):
    """An error by which a block is left."""


class Trials(WalkerCase):

    def test_nothing_is_left(self):
        walker = started()
        before = all_of(walker), redone(walker)
        with walker.trial() as held:
            self.assertIs(held, walker)
            held.go(Point(8, 8))
            held.go(Point(7, 1))
            held.step("from c until a b")
            held.undo()
            self.assertNotEqual(journal(walker), before[0][0])
        self.assertEqual((all_of(walker), redone(walker)), before)

    def test_kept(self):
        walker = started()
        with walker.trial() as held:
            walker.go(Point(8, 8))
            self.assertIsNone(held.keep())
            walker.go(Point(8, 9))
            walker.undo()
        self.assertEqual((walker.point, walker.done), (Point(8, 8), 3))
        walker.redo()
        self.assertEqual(walker.point, Point(8, 9))

    def test_what_is_undone_within(self):
        # Undo and redo go on to what was done ahead of the block.
        walker = started()
        before = all_of(walker), redone(walker)
        with walker.trial():
            walker.redo()
            walker.redo()
            self.assertEqual(walker.point, Point(9, 9))
            for _ in range(4):
                walker.undo()
            self.assertEqual((walker.point, walker.done), (Point(1, 1), 0))
            self.assertEqual(len(redone(walker)), 4)
        self.assertEqual((all_of(walker), redone(walker)), before)
        with walker.trial():
            walker.undo()
            walker.undo()
            walker.keep()
        self.assertEqual((walker.done, len(redone(walker))), (0, 4))

    def test_left_by_an_error(self):
        walker = started()
        before = all_of(walker), redone(walker)
        for kept in (False, True):
            with self.assertRaises(Left):
                with walker.trial():
                    walker.go(Point(8, 8))
                    if kept:
                        walker.keep()
                    raise Left()
            self.assertEqual((all_of(walker), redone(walker)), before)
            self.no(NoTrial, None, walker, walker.keep)
        with self.assertRaises(BadPoint):
            with walker.trial():
                walker.go(Point(8, 8))
                walker.go(Point(8, 8))
        self.assertEqual((all_of(walker), redone(walker)), before)

    def test_one_in_another(self):
        walker = Walker(TRIANGLE, Point(1, 1))
        with walker.trial():
            walker.go(Point(2, 2))
            with walker.trial():
                walker.go(Point(3, 3))
            self.assertEqual((walker.point, walker.done), (Point(2, 2), 1))
            with walker.trial():
                walker.go(Point(3, 4))
                walker.keep()
            self.assertEqual((walker.point, walker.done), (Point(3, 4), 2))
        self.assertEqual((walker.point, walker.done, redone(walker)), (Point(1, 1), 0, []))
        with walker.trial():
            walker.go(Point(2, 2))
            with walker.trial():
                walker.go(Point(3, 3))
                walker.keep()
            walker.keep()
        self.assertEqual((walker.point, walker.done), (Point(3, 3), 2))

    def test_keep_is_for_the_innermost_one(self):
        walker = Walker(TRIANGLE, Point(1, 1))
        with walker.trial():
            walker.go(Point(2, 2))
            with walker.trial():
                walker.keep()
                walker.go(Point(3, 3))
        self.assertEqual(walker.point, Point(1, 1))
        with walker.trial():
            walker.keep()
            with walker.trial():
                walker.go(Point(3, 3))
            walker.go(Point(2, 2))
        self.assertEqual((walker.point, walker.done), (Point(2, 2), 1))

    def test_an_error_caught_within_the_block_around(self):
        walker = Walker(TRIANGLE, Point(1, 1))
        with walker.trial():
            walker.go(Point(2, 2))
            try:
                with walker.trial():
                    walker.go(Point(3, 3))
                    walker.keep()
                    raise Left()
            except Left:
                pass
            self.assertEqual((walker.point, walker.done), (Point(2, 2), 1))
            walker.go(Point(5, 5))
            walker.keep()
        self.assertEqual((walker.point, walker.done), (Point(5, 5), 2))
        # What is refused and caught within the block itself does not leave it.
        with walker.trial():
            walker.keep()
            try:
                walker.go(Point(0, 0))
            except AtMark:
                walker.go(Point(7, 7))
        self.assertEqual(walker.point, Point(7, 7))

    def test_no_trial(self):
        walker = started()
        self.no(NoTrial, None, walker, walker.keep)
        walker.trial()
        self.no(NoTrial, None, walker, walker.keep)
        with walker.trial():
            walker.keep()
            other = walker.copy()
            self.no(NoTrial, None, other, other.keep)
            with other.trial():
                other.go(Point(7, 7))
        self.no(NoTrial, None, walker, walker.keep)

    def test_trials_within_trials_in_any_sequence(self):
        deeds = Undone.deed
        for told, marks in zip(walks.seeds(12), itertools.cycle(CHARTS)):
            places = plain.places_everywhere(marks)
            first = told.choice(places)
            walker, model = Walker(plain.chart_of(marks), plain.point(first)), Model(marks, first)
            for _ in range(6):
                self.block(told, walker, model, places, deeds, 3)
                self.alike(walker, model)
                self.assertEqual(len(redone(walker)), len(model.undone))

    def block(self, told, walker, model, places, deed, depth):
        """Deeds and blocks within a block, which is kept, or not, or left by an error."""
        state, end = model.state(), told.choice(["kept", "kept", "not kept", "error", "kept, but error"])
        try:
            with walker.trial() as held:
                if told.random() < 0.5 and end.startswith("kept"):
                    held.keep()
                for _ in range(told.randint(0, 4)):
                    deed(self, told, walker, model, places)
                    if depth > 0 and told.random() < 0.4:
                        self.block(told, walker, model, places, deed, depth - 1)
                        self.alike(walker, model)
                if end.startswith("kept"):
                    held.keep()
                if end.endswith("error"):
                    raise Left()
        except Left:
            self.assertTrue(end.endswith("error"))
        if end != "kept":
            model.restore(state)

    def test_left_by_return_and_break(self):
        walker = started()

        def leave(kept):
            with walker.trial() as held:
                held.go(Point(8, 8))
                if kept:
                    held.keep()
                return held.point

        before = all_of(walker), redone(walker)
        self.assertEqual(leave(False), Point(8, 8))
        self.assertEqual((all_of(walker), redone(walker)), before)
        for _ in range(3):
            with walker.trial():
                walker.undo()
                break
        self.assertEqual((all_of(walker), redone(walker)), before)
        self.assertEqual((leave(True), walker.point), (Point(8, 8), Point(8, 8)))


class Tried(WalkerCase):

    def test_keep(self):
        for keep in [False, None, 1, 0, "True", (True,), [True], Ratio(1), {}, Point(1, 1)]:
            walker = started()
            before = all_of(walker), redone(walker)
            self.assertTrue(is_same(walker.tried(lambda held: held.go(Point(-9, -8)), keep=keep), walker.copy().go(Point(-9, -8))))
            self.assertEqual((all_of(walker), redone(walker)), before)
        walker = started()
        walker.tried(lambda held: held.go(Point(-9, -8)), keep=True)
        self.assertEqual((walker.point, walker.done, redone(walker)), (Point(-9, -8), 3, []))
        walker = started()
        walker.tried(look=lambda held: held.go(Point(-9, -8)))
        self.assertEqual(walker.point, started().point)
        with self.assertRaises(TypeError):
            walker.tried(lambda held: None, True)

    def test_what_look_is_given_and_returns(self):
        walker, answer = started(), object()
        self.assertIs(walker.tried(lambda held: answer if held is walker else None), answer)
        self.assertIs(walker.tried(lambda held: held, keep=True), walker)
        self.assertIsNone(walker.tried(lambda held: None))

    def test_a_look_that_keeps(self):
        def look(held):
            held.go(Point(-9, -8))
            held.keep()
            held.go(Point(-9, -9))
            return held.done

        walker = started()
        self.assertEqual(walker.tried(look), 4)
        self.assertEqual((walker.point, walker.done), (Point(-9, -9), 4))
        self.no(NoTrial, None, walker, walker.keep)

    def test_a_look_that_copies(self):
        walker = started()
        walker_copy = walker.tried(lambda held: (held.go(Point(-9, -8)), held.copy())[1])
        self.assertEqual((walker.point, walker_copy.point), (started().point, Point(-9, -8)))
        self.no(NoTrial, None, walker_copy, walker_copy.keep)

    def test_a_look_that_raises(self):
        def look(held):
            held.go(Point(-9, -8))
            held.keep()
            raise Left()

        for keep in (True, False):
            walker = started()
            before = all_of(walker), redone(walker)
            with self.assertRaises(Left):
                walker.tried(look, keep=keep)
            self.assertEqual((all_of(walker), redone(walker)), before)
            self.no(NoTrial, None, walker, walker.keep)
            with self.assertRaises(BadPoint) as caught:
                walker.tried(lambda held: held.go(7), keep=True)
            self.assertTrue(is_same(caught.exception.value, 7))

    def test_one_in_another(self):
        walker = started()
        told = walker.tried(lambda held: held.tried(lambda inner: inner.go(Point(-9, -8)), keep=True) + held.log)
        self.assertEqual(told[-1], about(TRIANGLE, Point(-9, -8)))
        self.assertEqual(all_of(walker), all_of(started()))
        walker.tried(lambda held: held.tried(lambda inner: inner.go(Point(-9, -8))), keep=True)
        self.assertEqual((all_of(walker), redone(walker)), (all_of(started()), redone(started())))
        with walker.trial():
            walker.tried(lambda held: held.go(Point(-9, -8)), keep=True)
            self.assertEqual(walker.point, Point(-9, -8))
        self.assertEqual(all_of(walker), all_of(started()))


class Copies(WalkerCase):

    def test_alike_and_independent(self):
        walker = started()
        other = walker.copy()
        self.assertIsNot(other, walker)
        self.assertIs(type(other), Walker)
        self.assertEqual((all_of(other), redone(other)), (all_of(walker), redone(walker)))
        before = all_of(walker), redone(walker)
        other.redo()
        other.go(Point(8, 8))
        self.assertEqual((all_of(walker), redone(walker)), before)
        again = walker.copy()
        walker.undo()
        walker.go(Point(20, 21))
        self.assertEqual((all_of(again), redone(again)), before)

    def test_of_a_walker_in_a_trial(self):
        walker = started()
        with walker.trial():
            walker.go(Point(8, 8))
            other = walker.copy()
            walker.go(Point(9, 8))
        self.assertEqual((other.point, other.done), (Point(8, 8), 3))
        other.undo()
        self.assertEqual((other.point, len(redone(other))), (started().point, 1))

    def test_equality(self):
        walker = started()
        self.assertTrue(walker == walker.copy() == started())
        self.assertFalse(walker != started())
        # Just the journals count: not what was taken back.
        other = Walker(TRIANGLE, Point(1, 1))
        other.go(Point(3, 3))
        self.assertNotEqual(walker, other)
        other.step("from c until a b")
        self.assertEqual(walker, other)
        self.assertNotEqual(redone(walker), redone(other))
        # The same places by other deeds are another journal, and so are other charts, and other first places.
        other.undo()
        other.go(walker.point)
        self.assertEqual(other.point, walker.point)
        self.assertIs(other == walker, False)
        self.assertIs(Walker(TRIANGLE, Point(1, 1)) == Walker(TRIANGLE, Point(1, 2)), False)
        self.assertIs(Walker(TRIANGLE, Point(1, 1)) == Walker(FIVE, Point(1, 1)), False)
        self.assertIs(Walker(TRIANGLE, Point(1, 1)) == Walker(plain.chart_of(plain.TRIANGLE), Point(1, 1)), True)
        for value in [*values_of_all_classes(), journal(walker), walker.log, walker.chart, walker.point]:
            self.assertIs(walker == value, False)
            self.assertIs(walker != value, True)


class Live(WalkerCase):

    def test_what_the_functions_tell(self):
        for told, marks in zip(walks.seeds(4), [plain.SQUARE, plain.FIVE, plain.SEVEN_FLAT, plain.SEVEN]):
            chart, places = plain.chart_of(marks), plain.places_everywhere(marks)
            walker, log = Walker(chart, plain.point(told.choice(places))), None
            log = [about(chart, walker.first)]
            for at in told.sample(places, 8):
                start, goal = walker.point, plain.point(at)
                if goal != start and not plain.marks_on_way(marks, plain.place(start), at):
                    seen = seen_on(chart, start, goal)
                    self.assertEqual(walker.go(goal), seen[1:])
                    log.extend(seen[1:])
            self.assertEqual(walker.log, tuple(log))
            self.assertEqual(sides(chart, walker.point), plain.sides(marks, plain.place(walker.point)))


if __name__ == "__main__":
    unittest.main()
