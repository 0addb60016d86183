"""Point 16, and what points 2, 3 and 9 say of it."""

import itertools
import random
import unittest

from seenabout.charts import Chart
from seenabout.choosing import cheapest
from seenabout.errors import BadAsks, BadChart, BadLand, BadOffers
from seenabout.lands import Land
from seenabout.looks import shows_mixed
from seenabout.ratios import Ratio
from tests import plain
from tests.wrong import Case, is_same, values_of_all_classes

TRIANGLE = plain.chart_of(plain.TRIANGLE)
WIDE = ((5, -3), (8, -3), (8, 1), (5, 1))
LANDS = [None, WIDE, ((1, 1), (5, 1), (1, 5)), ((-6, 10), (11, -2), (4, 11)), ((7, 10), (5, 12), (5, 5), (8, -1)), ((1, -1), (3, -1), (3, 1), (1, 1))]
OFFERS = (("mark d 12 -1", 2), ("mark e 9 9", 1))


def in_sequence(offers):
    """All choices by price, then by how many offers they have, then as tuples."""
    some = [choice for many in range(len(offers) + 1) for choice in itertools.combinations(offers, many)]
    return sorted(some, key=lambda choice: (sum(price for _, price in choice), len(choice), choice))


def marks_with(marks, choice):
    """The marks of the chart of a choice, or None if this is none."""
    text = "\n".join([plain.text_of(marks), *[line for line, _ in choice]])
    try:
        Chart(text)
    except BadChart:
        return None
    return {line.split(" ")[1]: tuple(int(word) for word in line.split(" ")[2:]) for line in text.split("\n")}


class Cheapest(Case):

    def right(self, marks, offers, asks, corners):
        """What is told is the first choice that counts and settles all asks, with a right reason for each one ahead that counts."""
        told = cheapest(plain.chart_of(marks), offers, asks, land=plain.land_of(corners))
        ahead, first = [], None
        for choice in in_sequence(offers):
            wider = marks_with(marks, choice)
            if wider is not None:
                lost = [number for number, ask in enumerate(asks) if not plain.settles(wider, ask, corners)]
                if not lost:
                    first = choice
                    break
                ahead.append((choice, lost[0], wider))
        if first is None:
            self.assertTrue(is_same(told[:-1], ("none",)), (marks, offers, asks, corners, told))
        else:
            self.assertTrue(is_same(told[:-1], ("choice", sum(price for _, price in first), first)), (marks, offers, asks, corners, told))
        self.assertEqual((type(told), type(told[-1])), (tuple, tuple))
        self.assertTrue(is_same(tuple(reason[:2] for reason in told[-1]), tuple((choice, number) for choice, number, _ in ahead)), (told, ahead))
        for (_, number, *places), (choice, _, wider) in zip(told[-1], ahead):
            self.assertTrue(plain.is_mixed(wider, asks[number], tuple(places), corners))
            self.assertIs(shows_mixed(plain.chart_of(wider), asks[number], tuple(places), land=plain.land_of(corners)), True)
        return told

    def test_example(self):
        told = self.right(plain.TRIANGLE, OFFERS, (("a", "b"),), WIDE)
        self.assertTrue(is_same(told[:3], ("choice", 1, (("mark e 9 9", 1),))))
        self.assertEqual(told, cheapest(land=Land(WIDE), asks=(("a", "b"),), offers=OFFERS, chart=TRIANGLE))
        self.assertEqual([reason[:2] for reason in told[3]], [((), 0)])

    def test_nothing_is_needed(self):
        told = self.right(plain.TRIANGLE, OFFERS, (("a", "b"), ("b", "a")), LANDS[2])
        self.assertTrue(is_same(told, ("choice", 0, (), ())))

    def test_none_is_enough(self):
        # In the whole plane nobody sees that they go over a line between its marks.
        told = self.right(plain.TRIANGLE, OFFERS, (("a", "b"),), None)
        self.assertEqual([reason[0] for reason in told[1]], [(), (OFFERS[1],), (OFFERS[0],), OFFERS])

    def test_sequence_of_the_choices(self):
        marks = {"a": (0, 0), "b": (8, 0), "c": (0, 9)}
        for prices in [(1, 1, 1, 1), (1, 1, 2, 3), (3, 2, 1, 1), (9, 9, 9, 9), (1, 2, 3, 4), (4, 3, 2, 1), (2, 1, 1, 2), (5, 9, 4, 4)]:
            offers = tuple(zip(["mark d 20 1", "mark e 3 -30", "mark f -7 5", "mark g 31 33"], prices))
            told = self.right(marks, offers, (("a", "b"),), None)
            self.assertEqual((told[0], [reason[0] for reason in told[1]]), ("none", in_sequence(offers)))
        # As tuples: a line ahead of another one as texts, whatever stands in it.
        offers = (("mark d 20 1", 1), ("mark d 3 -30", 1), ("mark dd 31 33", 1), ("no mark", 1))
        told = self.right(marks, offers, (("a", "b"),), None)
        self.assertEqual([reason[0] for reason in told[1]],
                         [(), offers[:1], offers[1:2], offers[2:3], (offers[0], offers[2]), (offers[1], offers[2])])

    def test_lines_that_cannot_stand_there(self):
        lines = ["", "mark", "mark a 5 5", "mark d 0 0", "mark d 8 0", "mark d 1 1 1", "mark d 01 1", "mark D 5 5", "at 1 1", "mark d 1000 1", " mark d 5 5", "d"]
        for line in lines:
            told = self.right(plain.TRIANGLE, ((line, 1),), (("a", "b"),), None)
            self.assertEqual([reason[0] for reason in told[1]], [()])
            offers = tuple(sorted([(line, 1), ("mark e 9 9", 2)]))
            self.assertEqual(self.right(plain.TRIANGLE, offers, (("a", "b"),), WIDE)[:3], ("choice", 2, (("mark e 9 9", 2),)))

    def test_lines_that_cannot_stand_beside_one_another(self):
        # One name, one place, or three marks on one line.
        for one, other in [("mark d 5 5", "mark d 7 9"), ("mark d 5 6", "mark e 5 6"), ("mark d 5 6", "mark e 10 12"), ("mark d 9 9", "mark e 6 6")]:
            offers = ((one, 1), (other, 1))
            told = self.right(plain.TRIANGLE, offers, (("a", "b"),), None)
            self.assertEqual([reason[0] for reason in told[1]], [(), offers[:1], offers[1:]])

    def test_two_offers_of_one_line(self):
        offers = (("mark e 9 9", 3), ("mark e 9 9", 5))
        told = self.right(plain.TRIANGLE, offers, (("a", "b"),), WIDE)
        self.assertTrue(is_same(told[:3], ("choice", 3, offers[:1])))
        told = self.right(plain.TRIANGLE, offers, (("a", "b"),), None)
        self.assertEqual([reason[0] for reason in told[1]], [(), offers[:1], offers[1:]])

    def test_an_eighth_mark(self):
        marks = {"a": (0, 0), "b": (6, 0), "c": (1, 1), "d": (5, 1), "e": (0, 3), "f": (6, 3)}
        offers = (("mark g 3 7", 1), ("mark h 23 40", 1))
        told = self.right(marks, offers, (("a", "b"),), None)
        self.assertEqual([reason[0] for reason in told[1]], [(), offers[:1], offers[1:]])
        told = self.right(plain.SEVEN_FLAT, (("mark h 23 40", 1),), (("a", "b"),), None)
        self.assertEqual([reason[0] for reason in told[1]], [()])

    def test_several_asks(self):
        for corners in LANDS:
            for asks in [(("a", "b"), ("b", "c")), (("b", "c"), ("a", "b")), (("c", "a"), ("b", "a"), ("c", "b")), (("a", "b"), ("a", "b")), (("a", "b"), ("b", "a"), ("a", "c"))]:
                self.right(plain.TRIANGLE, OFFERS, asks, corners)
        told = self.right(plain.TRIANGLE, OFFERS, (("c", "a"), ("a", "c"), ("b", "a")), WIDE)
        self.assertEqual([reason[1] for reason in told[-1]], [2])

    def test_two_offers_together(self):
        offers = (("mark d 4 -4", 1), ("mark e -7 6", 1), ("mark f -4 -2", 2))
        told = self.right(plain.TRIANGLE, offers, (("b", "c"), ("c", "b"), ("b", "a")), ((7, -6), (6, -3), (1, 11)))
        self.assertTrue(is_same(told[:3], ("choice", 3, (offers[0], offers[2]))))
        offers = (("mark d 3 5", 1), ("mark e 7 -8", 2), ("mark f -7 -1", 2))
        told = self.right(plain.TRIANGLE, offers, (("c", "a"), ("a", "b")), ((12, 9), (-2, 5), (4, 5)))
        self.assertTrue(is_same(told[:3], ("choice", 3, offers[:2])))
        offers = (("mark d 0 2", 3), ("mark e 5 8", 1), ("mark f 5 -2", 3))
        told = self.right(plain.TRIANGLE, offers, (("a", "b"), ("a", "b"), ("b", "c")), ((-4, 10), (-4, 1), (8, 12)))
        self.assertTrue(is_same(told[:3], ("choice", 4, offers[1:])))
        self.assertEqual([reason[1] for reason in told[3]], [2, 2, 2])

    def test_offers_that_are_drawn(self):
        told, words, numbers = random.Random(11), set(), set()
        for marks in [plain.TRIANGLE, plain.SQUARE, plain.INNER, plain.SLANT]:
            for number in range(20):
                lines = [f"mark {told.choice('defgh')} {told.randint(-9, 12)} {told.randint(-9, 12)}" for _ in range(told.randint(1, 4 if number % 5 == 0 else 2))]
                offers = tuple(sorted({(line, told.randint(1, 3)) for line in lines}))
                asks = tuple(tuple(told.sample(list(marks), 2)) for _ in range(told.randint(1, 3)))
                answer = self.right(marks, offers, asks, told.choice(LANDS))
                words.add((answer[0], len(answer[2]) if answer[0] == "choice" else 0))
                numbers.update(reason[1] for reason in answer[-1])
        self.assertTrue({("none", 0), ("choice", 0), ("choice", 1)} <= words, words)
        self.assertEqual(numbers, {0, 1, 2})


class Refused(Case):

    def test_offers(self):
        one, other = OFFERS
        wrong = [(), (other, one), (one, one), (one, other, other), OFFERS + (("mark f 1 7", 1), ("mark g 2 9", 1), ("mark h 3 3", 1)), list(OFFERS), [one], (list(one),), one,
                 (("mark d 12 -1\n", 2),), (("mark d 12 -1\nmark e 9 9", 2),), (("\n", 1),), (("mark d 12 -1", 0),), (("mark d 12 -1", 10),), (("mark d 12 -1", -1),),
                 (("mark d 12 -1", True),), (("mark d 12 -1", Ratio(2)),), (("mark d 12 -1", "2"),), (("mark d 12 -1", None),), (("mark d 12 -1",),), (("mark d 12 -1", 2, 2),),
                 ((2, "mark d 12 -1"),), ((b"mark d 12 -1", 2),), ((None, 2),), ((("mark d 12 -1",), 2),), (one, None), (one, other, "mark"), {one: other},
                 (("mark d 12 -1", 2), ("mark d 12 -1", 1)), (("b", 1), ("a", 1)), (one, ["mark e 9 9", 1])]
        for value in [*values_of_all_classes(), *wrong]:
            self.refused(BadOffers, value, cheapest, TRIANGLE, value, (("a", "b"),))
            # Ahead of what is wrong of the others.
            self.refused(BadOffers, value, cheapest, TRIANGLE, value, None, land=7)
            self.refused(BadOffers, value, cheapest, land=7, asks=(), offers=value, chart=TRIANGLE)

    def test_right_offers(self):
        # Any string is a line, also the empty one; texts ascend by their characters, then by their prices.
        for offers in [(("", 1),), (("", 9), ("a", 1)), (("x", 1), ("x", 2), ("x", 9)), (("Z", 1), ("a", 1)), ((" " * 30, 5),), (("a", 1), ("a ", 1), ("b", 1), ("mark d 9 9", 9))]:
            self.assertEqual(cheapest(TRIANGLE, offers, (("a", "b"),), land=Land(LANDS[2])), ("choice", 0, (), ()))

    def test_asks(self):
        ask = ("a", "b")
        for value in [*values_of_all_classes(), (), (ask, ask, ask, ask), [ask], ask, (list(ask),), (("a", "a"),), (("a", "x"),), (("a", "d"),), (("d", "a"),), (ask, ("b",)),
                      (ask, ask, None), (ask, ("a", "b", "c")), {ask: ask}, (("a", 1),), ((ask,),)]:
            self.refused(BadAsks, value, cheapest, TRIANGLE, OFFERS, value)
            self.refused(BadAsks, value, cheapest, TRIANGLE, OFFERS, value, land=7)
            self.refused(BadAsks, value, cheapest, land=7, asks=value, offers=OFFERS, chart=TRIANGLE)

    def test_lands(self):
        for value in [*values_of_all_classes(), WIDE]:
            if value is not None and type(value) is not Land:
                self.refused(BadLand, value, cheapest, TRIANGLE, OFFERS, (("a", "b"),), land=value)
        with self.assertRaises(TypeError):
            cheapest(TRIANGLE, OFFERS, (("a", "b"),), None)

    def test_nothing_changes(self):
        first = cheapest(TRIANGLE, OFFERS, (("a", "b"), ("c", "b")), land=Land(WIDE))
        self.assertTrue(is_same(cheapest(TRIANGLE, OFFERS, (("a", "b"), ("c", "b")), land=Land(WIDE)), first))
        self.assertEqual(TRIANGLE.text, plain.text_of(plain.TRIANGLE))


if __name__ == "__main__":
    unittest.main()
