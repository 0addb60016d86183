"""Point 10, and what points 2 and 3 say of it."""

import itertools
import random
import unittest

from seenabout.cells import cells, place_of
from seenabout.errors import BadLand, BadNames, BadRound
from seenabout.lands import Land
from seenabout.points import Point
from seenabout.ratios import Ratio
from seenabout.seeing import rounds, seen_from, shows_seen_from, where
from tests import plain
from tests.test_sights import wrong_names
from tests.wrong import Case, is_same, nested, shapes_of, values_of_all_classes

ABC, ACB = (("a",), ("b",), ("c",)), (("a",), ("c",), ("b",))
TRIANGLE, PATCH = plain.chart_of(plain.TRIANGLE), ((1, 1), (5, 1), (1, 5))
# Lands within, beside and around the marks, with borders along lines, and with marks at corners and on borders.
LANDS = [
    PATCH, ((0, 0), (4, 0), (0, 4)), ((-9, -8), (11, -9), (10, 12), (-7, 9)), ((0, 0), (5, -1), (6, 3), (3, 7), (-1, 2)),
    ((-3, 0), (0, -3), (2, 0), (0, 1)), ((4, 0), (8, 0), (8, 4)), ((-5, -3), (0, 0), (-6, 1)), ((5, -3), (8, -3), (8, 1), (5, 1)),
    ((2, 0), (4, 0), (6, 2), (6, 4), (4, 6), (2, 6), (0, 4), (0, 2)), ((-999, -999), (999, -999), (999, 999), (-999, 999)),
    ((2, 2), (3, 2), (2, 3)), ((900, 900), (999, 900), (950, 999)), ((-1, -1), (2, 2), (-1, 5)), ((3, 0), (9, 0), (3, 1)),
    ((-2, 0), (6, 0), (2, 9)), ((0, -2), (3, -2), (0, -1)), ((7, 0), (5, 0), (6, -1)), ((0, 6), (0, 9), (-1, 7)), ((5, -1), (6, -2), (6, -1)),
]
BY_HAND = (
    "split", 0,
    ("split", 1, ("barred", (("edge", 2, 1), ("pair", 1, 1))), ("barred", (("edge", 2, 3), ("pair", 1, 3))),
     ("split", 2, ("other", ("a", "b", "c")), ("other", ("a", "b", "c")), ("other", ("a", "b", "c")))),
    ("barred", (("edge", 0, 2), ("pair", 0, -2))), ("barred", (("edge", 0, 1), ("pair", 0, -1))))


def choices(marks):
    """None, and some choices of marks."""
    names = tuple(marks)
    return [None, *dict.fromkeys([names, names[:3], names[-3:], names[::2] if len(names) > 4 else names, names[1:] if len(names) > 3 else names])]


def one_for_each_cell(marks, places):
    """For each cell of some places one of these."""
    return list({plain.sides(marks, at): at for at in places}.values())


def rounds_by_hand(marks, places, among=None):
    """The rounds that are seen from some of these places."""
    return tuple(sorted({plain.about(marks, at, among) for at in places}))


def some_rounds(names, many, told):
    """Rounds of these names by their form, with any groups."""
    found = []
    for _ in range(many):
        groups = []
        for name in told.sample(names, len(names)):
            if groups and told.random() < 0.2:
                groups[-1].append(name)
            else:
                groups.append([name])
        ordered = tuple(tuple(name for name in names if name in group) for group in groups)
        found.append(plain.left_of(ordered, names))
    return found


def close_to(seen, told):
    """A round unlike this one in one place: two groups exchanged, put together, or one parted."""
    groups = [list(group) for group in seen]
    at = told.randrange(1, len(groups)) if len(groups) > 1 else 0
    if len(groups[at]) > 1:
        groups[at:at + 1] = [[name] for name in groups[at]]
    elif told.random() < 0.5 and at > 1:
        groups[at - 1], groups[at] = groups[at], groups[at - 1]
    elif at:
        groups[at - 1:at + 1] = [groups[at - 1] + groups[at]]
    names = sorted(name for group in groups for name in group)
    return plain.left_of(tuple(tuple(sorted(group)) for group in groups), names)


def exchanged(value, old, new):
    """A value with another string instead of one of its own, at all depths."""
    if type(value) is tuple:
        return tuple(exchanged(part, old, new) for part in value)
    return new if value == old else value


def wrong_rounds(names):
    """Values that are no round asked of marks with these names."""
    first, second, third, *rest = names
    seen = tuple((name,) for name in names)
    return [
        (), seen[:-1], seen[1:], seen + ((first,),), seen + (seen[-1],), seen[1:] + seen[:1], seen[::-1], seen[1:2] + seen[:1] + seen[2:],
        [*seen], [[name] for name in names], tuple([name] for name in names), names, (names[::-1],), ([*names],), (names, ()), ((),) + seen,
        seen + ((),), seen[:1] + ((),) + seen[1:], ((second, first), (third,), *seen[3:]), ((first,), (third, second), *seen[3:]),
        ((first, first), *seen[1:]), ((first, second), *seen[1:]), ((first,), (second, third), (third,), *seen[3:]), (first, *seen[1:]),
        ((first,), second, *seen[2:]), ((first, "x"), *seen[1:]), seen + (("x",),), ((first.upper(),), *seen[1:]), ((first + " ",), *seen[1:]),
        ((0,), (1,), (2,)), ((first,), (second,), (None,), *seen[3:]), ((first,), (second,), (True,), *seen[3:]), (seen,), [seen], {seen: 1},
        ((first,), (second,), ((third,),), *seen[3:]), " ".join(names), ",".join(names), first, None, True, 0, nested(30), {},
        ((first,), (second,), (third, nested(27)), *seen[3:]), seen[:2] + (None,) + seen[2:], (None,) + seen, (set(names),), tuple(set([name]) for name in names),
        (dict.fromkeys(names),), ((first, second, *rest), [third]), (list(names[:2]), names[2:]),
        *[value for value in values_of_all_classes() if not is_same(value, ABC)],
    ]


class Rounds(Case):

    def test_triangle(self):
        self.assertTrue(is_same(rounds(TRIANGLE), (
            (("a",), ("b",), ("c",)), (("a",), ("b", "c")), (("a",), ("c",), ("b",)), (("a", "b"), ("c",)), (("a", "c"), ("b",)))))
        self.assertEqual(rounds(chart=TRIANGLE, among=("a", "b", "c"), land=None), rounds(TRIANGLE))
        self.assertEqual(rounds(TRIANGLE, land=Land(PATCH)), (ABC,))
        self.assertEqual(rounds(TRIANGLE, land=Land(((5, 1), (7, -3), (8, 4)))), tuple(sorted([ABC, ACB, (("a", "b"), ("c",)), (("a",), ("b", "c"))])))

    def test_in_the_plane(self):
        for marks in plain.SMALL + plain.MIDDLE + plain.LARGE:
            chart, everywhere = plain.chart_of(marks), one_for_each_cell(marks, plain.places_everywhere(marks))
            for among in choices(marks)[:3 if len(marks) > 5 else None]:
                self.assertTrue(is_same(rounds(chart, among=among), rounds_by_hand(marks, everywhere, among)), (marks, among))

    def test_ascending_with_names_of_other_lengths(self):
        chart = plain.chart_of({"ab": (0, 0), "a": (4, 0), "abc": (0, 4), "b": (5, 7), "aa": (-3, 1)})
        told = rounds(chart)
        self.assertEqual(told, tuple(sorted(set(told))))
        self.assertGreater(len(told), 30)

    def test_on_lands(self):
        for marks in plain.SMALL + [plain.FIVE]:
            chart = plain.chart_of(marks)
            for corners in LANDS:
                within = one_for_each_cell(marks, plain.places_within(marks, corners))
                for among in choices(marks)[::2]:
                    told = rounds(chart, land=Land(corners), among=among)
                    self.assertTrue(is_same(told, rounds_by_hand(marks, within, among)), (marks, corners, among))

    def test_on_lands_with_seven_marks(self):
        for marks, corners in zip([plain.SEVEN, plain.SEVEN_FLAT, plain.HEXAGON], [LANDS[2], LANDS[0], LANDS[3]]):
            within = one_for_each_cell(marks, plain.places_within(marks, corners))
            self.assertEqual(rounds(plain.chart_of(marks), land=Land(corners)), rounds_by_hand(marks, within))

    def test_from_many_places_of_lands(self):
        told = random.Random(5)
        for marks in plain.SMALL + plain.MIDDLE:
            chart = plain.chart_of(marks)
            for corners in LANDS:
                seen = rounds(chart, land=Land(corners))
                for _ in range(20):
                    one, other, third = [told.choice(corners) for _ in range(3)]
                    at = plain.between(plain.between(one, other, plain.Fraction(told.randint(0, 6), 6)), third, plain.Fraction(told.randint(0, 3), 5))
                    if at not in marks.values():
                        self.assertIn(plain.about(marks, at), seen)

    def test_each_one_that_is_told_is_seen(self):
        for marks in [plain.SQUARE, plain.HOUSE, plain.SEVEN]:
            chart = plain.chart_of(marks)
            for corners in [None, *LANDS[:5]]:
                quest, land = plain.Quest(marks, None, corners), plain.land_of(corners)
                for quest.asked in rounds(chart, land=land):
                    told = seen_from(chart, quest.asked, land=land)
                    self.assertEqual(told[0], "place")
                    self.assertTrue(quest.is_seen_from(told), (marks, corners, told))

    def test_a_round_that_is_seen_on_the_border_alone(self):
        # From within, the marks a and b stand apart; on the border, along the line of both, in one group.
        land = Land(((5, 0), (9, 0), (7, 1)))
        self.assertEqual(rounds(TRIANGLE, land=land), (ABC, (("a", "b"), ("c",))))
        # At one corner alone, which is on a line.
        self.assertEqual(rounds(TRIANGLE, land=Land(((6, 0), (9, 1), (7, 3)))), (ABC, (("a", "b"), ("c",))))
        # At the corner stands the mark itself: nothing is seen from there.
        self.assertEqual(rounds(TRIANGLE, land=Land(((4, 0), (6, 1), (5, 3)))), (ABC,))
        self.assertEqual(rounds(TRIANGLE, land=Land(((4, 0), (6, -1), (8, -1)))), (ACB,))


class SeenFrom(Case):

    def right(self, chart, marks, asked, corners, among=None):
        """What is told is right, of the only word that can be; the word."""
        land, quest = plain.land_of(corners), plain.Quest(marks, asked, corners, among)
        told = seen_from(chart, asked, land=land, among=among)
        self.assertTrue(quest.is_seen_from(told), (marks, asked, corners, among, told))
        self.assertIs(shows_seen_from(chart, asked, told, land=land, among=among), True)
        self.assertEqual(told[0] == "place", asked in rounds(chart, land=land, among=among))
        return told

    def asked_of(self, marks, among, told):
        """Rounds that are seen somewhere, some that are close to these, and any."""
        names = list(marks if among is None else among)
        seen = rounds(plain.chart_of(marks), among=among)
        some = told.sample(seen, min(5, len(seen)))
        return [*some, *[one for one in [close_to(one, told) for one in some] if names == sorted(names)], *some_rounds(names, 4, told)]

    def test_triangle(self):
        for seen in rounds(TRIANGLE):
            self.assertEqual(self.right(TRIANGLE, plain.TRIANGLE, seen, None)[0], "place")
            self.assertEqual(self.right(TRIANGLE, plain.TRIANGLE, seen, PATCH)[0], "place" if seen == ABC else "never")
        self.assertEqual(self.right(TRIANGLE, plain.TRIANGLE, (("a", "b", "c"),), None)[0], "never")
        self.assertEqual(seen_from(asked=ACB, chart=TRIANGLE, among=None, land=Land(PATCH))[0], "never")

    def test_all_rounds_by_their_form(self):
        for marks in [plain.TRIANGLE, plain.SLANT, plain.SQUARE, plain.INNER]:
            chart, told = plain.chart_of(marks), random.Random(2)
            for asked in dict.fromkeys(some_rounds(list(marks), 120, told)):
                for corners in [None, LANDS[0], LANDS[5]]:
                    self.right(chart, marks, asked, corners)

    def test_on_lands(self):
        for marks in plain.SMALL + plain.MIDDLE:
            chart, told = plain.chart_of(marks), random.Random(4)
            for corners in LANDS:
                for among in choices(marks)[:3]:
                    for asked in self.asked_of(marks, among, told)[::3]:
                        self.right(chart, marks, asked, corners, among)

    def test_seven_marks(self):
        for marks in plain.LARGE:
            chart, told = plain.chart_of(marks), random.Random(6)
            for corners in [None, LANDS[2], LANDS[8]]:
                for among in choices(marks)[:3]:
                    for asked in self.asked_of(marks, among, told)[::2]:
                        self.right(chart, marks, asked, corners, among)

    def test_trees_lead_places_to_leaves_that_tell_of_another_round(self):
        for marks in [plain.SQUARE, plain.INNER, plain.FIVE]:
            chart, told = plain.chart_of(marks), random.Random(8)
            for corners in [None, *LANDS[:4]]:
                within = plain.places_everywhere(marks) if corners is None else plain.places_within(marks, corners)
                within = list({plain.sides(marks, at): at for at in within}.items())
                for asked in some_rounds(list(marks), 5, told):
                    word, tree = seen_from(chart, asked, land=plain.land_of(corners))
                    if word == "never":
                        quest = plain.Quest(marks, asked, corners)
                        for cell, _ in within:
                            self.assertEqual(quest.leaf_for(tree, cell)[0], "other")

    def test_a_round_that_only_a_mark_would_see(self):
        # The land has one point of the lines of a alone, and that is a: no leaf tells of sides there.
        corners = ((0, 0), (2, 1), (1, 2))
        for asked in some_rounds(["a", "b", "c"], 20, random.Random(1)):
            self.right(TRIANGLE, plain.TRIANGLE, asked, corners)
        for marks in [plain.INNER, plain.FIVE]:
            chart = plain.chart_of(marks)
            for corners in [((0, 0), (2, 1), (1, 2)), ((0, 0), (-2, -1), (-1, -2)), ((0, 0), (1, -3), (2, -3)), ((-3, 1), (-3, -1), (0, 0))]:
                for asked in some_rounds(list(marks), 12, random.Random(1)):
                    self.right(chart, marks, asked, corners)


class Shown(Case):

    def judged(self, chart, quest, values):
        """Each value is told to be what the document's words make of it."""
        land, among = plain.land_of(quest.corners), tuple(quest.names)
        for value in values:
            wanted = quest.is_seen_from(value)
            self.assertIs(shows_seen_from(chart, quest.asked, value, land=land, among=among), wanted, (quest.asked, value))

    def test_a_tree_by_hand(self):
        land = Land(PATCH)
        self.assertIs(shows_seen_from(TRIANGLE, ACB, ("never", BY_HAND), land=land), True)
        self.assertIs(shows_seen_from(value=("never", BY_HAND), asked=ACB, chart=TRIANGLE, among=("a", "b", "c"), land=land), True)
        self.assertIs(shows_seen_from(TRIANGLE, (("a", "b"), ("c",)), ("never", BY_HAND), land=land), True)
        self.assertIs(shows_seen_from(TRIANGLE, ABC, ("never", BY_HAND), land=land), False)
        self.assertIs(shows_seen_from(TRIANGLE, ACB, ("never", BY_HAND)), False)
        self.assertIs(shows_seen_from(TRIANGLE, ACB, ("never", BY_HAND), land=Land(((1, 0), (5, 1), (1, 5)))), False)
        self.assertIs(shows_seen_from(TRIANGLE, ACB, ("never", BY_HAND), land=Land(PATCH[1:] + PATCH[:1])), False)
        self.judged(TRIANGLE, plain.Quest(plain.TRIANGLE, ACB, PATCH), shapes_of(("never", BY_HAND)))

    def test_trees_by_any_hand(self):
        told = random.Random(9)
        for marks, corners in [(plain.TRIANGLE, PATCH), (plain.TRIANGLE, None), (plain.SLANT, LANDS[4]), (plain.SQUARE, LANDS[10])]:
            chart, land = plain.chart_of(marks), plain.land_of(corners)
            for asked in some_rounds(list(marks), 4, told):
                if asked not in rounds(chart, land=land):
                    quest = plain.Quest(marks, asked, corners)
                    order = told.sample(range(len(quest.pairs)), len(quest.pairs))
                    tree = quest.grow(order)
                    self.assertTrue(quest.is_seen_from(("never", tree)))
                    self.assertIs(shows_seen_from(chart, asked, ("never", tree), land=land), True)
                    self.judged(chart, quest, itertools.islice(shapes_of(("never", tree)), 0, None, 11))

    def test_one_part_otherwise(self):
        for marks, corners, asked in [
            (plain.TRIANGLE, None, (("a", "b", "c"),)), (plain.TRIANGLE, PATCH, ACB), (plain.TRIANGLE, LANDS[5], (("a",), ("b", "c"))),
            (plain.SQUARE, LANDS[10], (("a", "c"), ("b",), ("d",))), (plain.TRIANGLE, ((0, 0), (2, 1), (1, 2)), (("a", "b"), ("c",))),
        ]:
            chart, quest = plain.chart_of(marks), plain.Quest(marks, asked, corners)
            told = seen_from(chart, asked, land=plain.land_of(corners))
            self.assertEqual(told[0], "never")
            self.judged(chart, quest, [told, *itertools.islice(shapes_of(told), 0, None, 3)])

    def test_branches_exchanged(self):
        quest, (split, number, *branches) = plain.Quest(plain.TRIANGLE, ACB, PATCH), BY_HAND
        for some in itertools.permutations(branches):
            self.judged(TRIANGLE, quest, [("never", (split, number, *some))])
            self.assertIs(shows_seen_from(TRIANGLE, ACB, ("never", (split, number, *some)), land=Land(PATCH)), some[0] == branches[0])
        for other in (1, 2):
            self.judged(TRIANGLE, quest, [("never", (split, other, *branches))])

    def test_a_pair_taken_twice(self):
        land, (split, number, left, on, right) = Land(PATCH), BY_HAND
        self.assertIs(shows_seen_from(TRIANGLE, ACB, ("never", (split, number, left, on, (split, 1, right, right, right))), land=land), True)
        self.assertIs(shows_seen_from(TRIANGLE, ACB, ("never", (split, number, left, on, (split, 0, right, right, right))), land=land), False)
        self.assertIs(shows_seen_from(TRIANGLE, ACB, ("never", (split, number, left, on, (split, 3, right, right, right))), land=land), False)
        self.assertIs(shows_seen_from(TRIANGLE, ACB, ("never", (split, number, left, on, (split, -1, right, right, right))), land=land), False)
        self.assertIs(shows_seen_from(TRIANGLE, ACB, ("never", (split, number, left, on, (split, True, right, right, right))), land=land), False)

    def test_a_pair_taken_twice_in_a_row(self):
        split, number, left, on, right = BY_HAND
        for again in [(split, number, left, on, (split, number, left, on, right)), (split, number, (split, number, left, on, right), on, right),
                      (split, number, left, (split, number, left, on, right), right)]:
            self.assertIs(shows_seen_from(TRIANGLE, ACB, ("never", again), land=Land(PATCH)), False)
            self.judged(TRIANGLE, plain.Quest(plain.TRIANGLE, ACB, PATCH), [("never", again)])

    def leaf(self, leaf, taken, marks=plain.TRIANGLE, asked=ACB, corners=PATCH, among=None):
        """Whether a leaf is right behind these sides taken: the other branches are right anyhow, as a check tells."""
        chart, land, quest = plain.chart_of(marks), plain.land_of(corners), plain.Quest(marks, asked, corners, among)
        tree = leaf
        for number in sorted(taken, reverse=True):
            rest = {other: side for other, side in taken.items() if other < number}
            grown = {side: quest.grow(range(len(quest.pairs)), {**rest, number: side}) for side in (1, 0, -1)}
            grown[taken[number]] = tree
            tree = ("split", number, grown[1], grown[0], grown[-1])
        told = shows_seen_from(chart, asked, ("never", tree), land=land, among=among)
        self.assertIs(told, quest.is_tree(tree, {}))
        self.assertIs(told, quest.is_leaf(*leaf, taken), (leaf, taken))
        return told

    def test_barred(self):
        for entries, taken, wanted in [
            ([("edge", 2, 1), ("pair", 1, 1)], {1: 1}, True), ([("edge", 2, 1), ("pair", 1, 1)], {1: 0}, True),
            ([("edge", 2, 1), ("pair", 1, 1)], {0: 1, 1: 1}, True), ([("edge", 2, 5), ("pair", 1, 5)], {1: 1}, True),
            ([("edge", 2, 1), ("pair", 1, 1)], {1: -1}, False), ([("edge", 2, 1), ("pair", 1, 1)], {0: 1}, False),
            ([("edge", 2, -1), ("pair", 1, -1)], {1: 0}, False), ([("edge", 2, 1), ("pair", 1, 2)], {1: 1}, False),
            ([("pair", 1, 1), ("edge", 2, 1)], {1: 1}, False), ([("edge", 2, 1)], {1: 1}, False), ([], {1: 1}, False), ([("pair", 1, 1)], {1: 1}, False),
            ([("edge", 2, 1), ("edge", 2, 1), ("pair", 1, 2)], {1: 1}, False), ([("edge", 3, 1), ("pair", 1, 1)], {1: 1}, False),
            ([("edge", 0, 1), ("pair", 0, -1)], {0: -1}, True), ([("edge", 0, 1), ("pair", 0, -1)], {0: 0}, True),
            ([("edge", 0, 1), ("edge", 1, 1), ("edge", 2, 1)], {0: -1}, False), ([("edge", -1, 1), ("pair", 1, 1)], {1: 1}, False),
            ([("edge", 0, 1), ("edge", 1, 1), ("edge", 2, 2), ("pair", 1, 1)], {1: 1}, False),
            ([("edge", 0, 0), ("edge", 2, 1), ("pair", 1, 1)], {1: 1}, False), ([("edge", 2, 1), ("pair", 0, 0), ("pair", 1, 1)], {0: 0, 1: 1}, False),
            ([("edge", 2, 1), ("pair", 0, 0), ("pair", 1, 1)], {0: 1, 1: 1}, False),
        ]:
            self.assertIs(self.leaf(("barred", tuple(entries)), taken), wanted, (entries, taken))
        self.assertIs(self.leaf(("barred", (("pair", 0, -1), ("pair", 1, 1), ("pair", 2, -1))), {0: -1, 1: 1, 2: -1}), True)
        self.assertIs(self.leaf(("barred", (("pair", 0, -1), ("pair", 1, 1), ("pair", 2, -1))), {0: 0, 1: 0, 2: 0}), True)
        self.assertIs(self.leaf(("barred", (("pair", 0, 1), ("pair", 1, -1), ("pair", 2, 1))), {0: 0, 1: 0, 2: 0}), False)

    def test_barred_where_the_sum_is_0(self):
        # The land touches the line of a and b: its edge, turned over, and the line add up to 0 at all points.
        corners, paper = ((0, 0), (4, 0), (2, 2)), (("edge", 0, 1), ("pair", 0, -1))
        self.assertIs(self.leaf(("barred", paper), {0: -1}, corners=corners), True)
        asked = (("a", "b"), ("c",))
        self.assertIs(self.leaf(("barred", paper), {0: 0}, corners=corners, asked=asked), False)
        self.assertIs(self.leaf(("barred", paper), {0: 1}, corners=corners, asked=asked), False)

    def test_mark(self):
        for name, taken, wanted in [
            ("a", {0: 0, 1: 0}, True), ("b", {0: 0, 2: 0}, True), ("c", {1: 0, 2: 0}, True), ("a", {0: 0, 1: 0, 2: 1}, True),
            ("a", {0: 0}, False), ("a", {0: 0, 1: 1}, False), ("b", {0: 0, 1: 0}, False), ("a", {0: 0, 2: 0}, False), ("c", {}, False),
            ("d", {0: 0, 1: 0}, False), (None, {0: 0, 1: 0}, False), (("a",), {0: 0, 1: 0}, False), ("", {0: 0, 1: 0}, False), ("a", {0: 0, 1: 0, 2: 0}, True),
        ]:
            self.assertIs(self.leaf(("mark", name), taken), wanted, (name, taken))
        # A mark that is not among those of the round has pairs, too: 3, 4 and 5 are (a, d), (b, c) .. of four marks.
        asked = (("a",), ("c",), ("b",))
        self.assertIs(self.leaf(("mark", "d"), {2: 0, 4: 0}, marks=plain.INNER, asked=asked, among=("a", "b", "c")), True)
        self.assertIs(self.leaf(("mark", "d"), {2: 0, 3: 0}, marks=plain.INNER, asked=asked, among=("a", "b", "c")), False)

    def test_other(self):
        names = ("a", "b", "c")
        for value, taken, wanted in [
            (names, {0: 1, 1: -1, 2: 1}, True), (names, {0: 1, 1: -1, 2: -1}, True), (names, {0: 0, 1: -1, 2: 1}, True),
            (names, {0: 0, 1: -1, 2: -1}, True), (names, {0: -1, 1: 1, 2: 1}, False), (names, {0: 1, 1: -1}, False), (names, {0: -1, 1: 1, 2: -1}, False),
            (names, {0: 0, 1: 0, 2: 1}, False), (names, {0: 0, 1: 1, 2: -1}, False), (names[::-1], {0: 1, 1: -1, 2: 1}, False),
            (["a", "b", "c"], {0: 1, 1: -1, 2: 1}, False), (names[:2], {0: 1, 1: -1, 2: 1}, False), (("a", "a", "b"), {0: 1, 1: -1, 2: 1}, False),
            (("a", "b", "d"), {0: 1, 1: -1, 2: 1}, False), ("abc", {0: 1, 1: -1, 2: 1}, False), (names + ("c",), {0: 1, 1: -1, 2: 1}, False),
        ]:
            self.assertIs(self.leaf(("other", value), taken), wanted, (value, taken))

    def test_other_of_marks_that_are_not_among(self):
        chart, among, quest = plain.chart_of(plain.SQUARE), ("a", "b", "c"), plain.Quest(plain.SQUARE, (("a", "b", "c"),), None, ("a", "b", "c"))
        tree = quest.grow([0, 1, 3, 2, 4, 5])
        self.judged(chart, quest, [("never", tree)])
        self.assertIs(shows_seen_from(chart, quest.asked, ("never", tree), among=among), True)
        self.assertIs(shows_seen_from(chart, quest.asked, ("never", exchanged(tree, "c", "d")), among=among), False)

    def test_places_by_any_hand(self):
        for marks in [plain.TRIANGLE, plain.SQUARE]:
            chart = plain.chart_of(marks)
            for corners in [None, *LANDS[:6]]:
                quest, land = plain.Quest(marks, None, corners), plain.land_of(corners)
                for quest.asked in rounds(chart)[::2]:
                    for x, y in itertools.product(range(-2, 8), range(-3, 6)):
                        told = ("place", Point(x, y))
                        self.assertIs(shows_seen_from(chart, quest.asked, told, land=land), quest.is_seen_from(told))

    def test_places_with_one_part_otherwise(self):
        for asked, corners in [(ACB, None), (ABC, PATCH), ((("a", "b"), ("c",)), LANDS[13])]:
            told = seen_from(TRIANGLE, asked, land=plain.land_of(corners))
            self.assertEqual(told[0], "place")
            self.judged(TRIANGLE, plain.Quest(plain.TRIANGLE, asked, corners), shapes_of(told))

    def test_values_of_any_kind(self):
        values = values_of_all_classes() + [
            ("never",), ("never", BY_HAND, 1), ["never", BY_HAND], "never", ("never", None), ("never", ()), ("never", ("split",)),
            ("never", ("split", 0)), ("never", ("split", 0, 1, 2, 3)), ("never", ("barred",)), ("never", ("mark",)), ("never", ("other",)),
            ("never", ("mark", ["a"])), ("never", (0, 1)), ("never", "split"), ("place", (1, 1)), ("place", "1 1"), ("place", None), ("place", Point(0, 0)),
            ("mark", "a"), ("Never", BY_HAND), ("tree", BY_HAND), BY_HAND, ("never", nested(29)), nested(30), ("never", ("barred", nested(28))),
            ("never", ("other", nested(28))), ("never", ("mark", nested(28))), ("never", ("split", nested(28), (), (), ())),
        ]
        for asked, corners in [(ACB, PATCH), (ABC, PATCH), (ACB, None)]:
            self.judged(TRIANGLE, plain.Quest(plain.TRIANGLE, asked, corners), values)


class Where(Case):

    def test_triangle(self):
        self.assertTrue(is_same(where(TRIANGLE, ACB), ((-1, -1, -1), (-1, 1, 1), (1, 1, -1))))
        self.assertEqual(where(asked=(("a", "b"), ("c",)), chart=TRIANGLE), ((0, -1, -1), (0, 1, 1)))
        self.assertTrue(is_same(where(TRIANGLE, (("a", "b", "c"),)), ()))

    def test_just_the_cells_from_which_it_is_seen(self):
        for marks in plain.SMALL + plain.MIDDLE + plain.LARGE[:1]:
            chart = plain.chart_of(marks)
            there = {plain.sides(marks, at): at for at in plain.places_everywhere(marks)}
            for among in choices(marks)[:3]:
                told = {}
                for cell in sorted(there):
                    told.setdefault(plain.about(marks, there[cell], among), []).append(cell)
                for seen, some in list(told.items())[::3]:
                    self.assertTrue(is_same(where(chart, seen, among=among), tuple(some)))

    def test_they_part_all_cells(self):
        for marks in [plain.SQUARE, plain.SEVEN]:
            chart = plain.chart_of(marks)
            for among in choices(marks)[1:3]:
                some = [cell for seen in rounds(chart, among=among) for cell in where(chart, seen, among=among)]
                self.assertEqual(tuple(sorted(some)), cells(chart))

    def test_seen_from_the_cells(self):
        chart = plain.chart_of(plain.SEVEN_FLAT)
        for seen in rounds(chart)[::40]:
            for cell in where(chart, seen):
                self.assertEqual(plain.about(plain.SEVEN_FLAT, plain.place(place_of(chart, cell)[1])), seen)


class Refused(Case):

    def test_bad_round(self):
        land = Land(PATCH)
        for marks in [plain.TRIANGLE, plain.SQUARE, plain.SEVEN]:
            chart = plain.chart_of(marks)
            for value in wrong_rounds(chart.names):
                if len(marks) == 3 or not is_same(value, ABC):
                    self.refused(BadRound, value, seen_from, chart, value)
                    self.refused(BadRound, value, seen_from, asked=value, chart=chart, land=land)
                    self.refused(BadRound, value, shows_seen_from, chart, value, None)
                    self.refused(BadRound, value, where, chart, value)

    def test_bad_round_of_some_marks(self):
        chart, among = plain.chart_of(plain.SQUARE), ("b", "c", "d")
        for value in wrong_rounds(among) + [(("a",), ("b",), ("c",), ("d",)), ABC]:
            self.refused(BadRound, value, seen_from, chart, value, among=among)
            self.refused(BadRound, value, shows_seen_from, chart, value, None, among=among)
            self.refused(BadRound, value, where, chart, value, among=among)
        self.assertEqual(seen_from(chart, (("b", "c", "d"),), among=among)[0], "never")

    def test_groups_of_more_marks_are_rounds_asked(self):
        chart = plain.chart_of(plain.FIVE)
        for asked in [(("a", "b", "c", "d", "e"),), (("a", "c", "e"), ("b", "d")), (("a",), ("b", "c", "d", "e"))]:
            self.assertEqual((seen_from(chart, asked)[0], where(chart, asked)), ("never", ()))

    def test_bad_land(self):
        for value in values_of_all_classes() + [PATCH, (1, 1), nested(30)]:
            if value is not None and not isinstance(value, Land):
                self.refused(BadLand, value, rounds, TRIANGLE, land=value)
                self.refused(BadLand, value, seen_from, TRIANGLE, ABC, land=value)
                self.refused(BadLand, value, shows_seen_from, TRIANGLE, ABC, None, land=value)

    def test_bad_names(self):
        for marks in [plain.TRIANGLE, plain.SEVEN]:
            chart, land = plain.chart_of(marks), Land(PATCH)
            for value in wrong_names(chart.names):
                self.refused(BadNames, value, rounds, chart, among=value)
                self.refused(BadNames, value, rounds, chart, among=value, land=land)
                self.refused(BadNames, value, seen_from, chart, ABC, among=value)
                self.refused(BadNames, value, shows_seen_from, chart, ABC, None, among=value)
                self.refused(BadNames, value, where, chart, ABC, among=value)

    def test_which_error_comes_first(self):
        for call in [seen_from, lambda *args, **named: shows_seen_from(*args, None, **named)]:
            self.refused(BadLand, 7, call, TRIANGLE, "x", land=7, among=())
            self.refused(BadNames, "b", call, TRIANGLE, "x", land=None, among="b")
            self.refused(BadRound, "x", call, TRIANGLE, "x", land=Land(PATCH), among=("a", "b", "c"))
            self.refused(BadLand, 7, call, TRIANGLE, ABC, land=7, among="b")
        self.refused(BadLand, 7, rounds, TRIANGLE, land=7, among="b")
        self.refused(BadNames, "b", where, TRIANGLE, "x", among="b")

    def test_land_and_among_are_told_by_name(self):
        for call in [lambda: rounds(TRIANGLE, None), lambda: seen_from(TRIANGLE, ABC, None), lambda: where(TRIANGLE, ABC, None),
                     lambda: shows_seen_from(TRIANGLE, ABC, None, None)]:
            with self.assertRaises(TypeError):
                call()

    def test_nothing_changes(self):
        land, asked = Land(PATCH), (("a",), ("c",), ("b",))
        first = [rounds(TRIANGLE, land=land), where(TRIANGLE, asked), seen_from(TRIANGLE, asked, land=land)]
        self.assertEqual([rounds(TRIANGLE, land=land), where(TRIANGLE, asked), seen_from(TRIANGLE, asked, land=land)], first)
        self.assertEqual((land, asked, TRIANGLE.text), (Land(PATCH), ACB, plain.text_of(plain.TRIANGLE)))
        self.assertEqual(Ratio(1), TRIANGLE["b"].x - 3)


if __name__ == "__main__":
    unittest.main()
