"""Values of every kind that a caller may hand in, and how refusing them is tested."""

import unittest

from seenabout.charts import Chart
from seenabout.errors import AboutError, BadText
from seenabout.lands import Land
from seenabout.points import Line, Point
from seenabout.ratios import Ratio


def nested(depth):
    """A value that is nested so deep, of tuples, lists and dicts in turn."""
    value = Ratio(1, 2)
    for level in range(depth):
        value = [(value, 1), [value, "a"], {"a": value}][level % 3]
    return value


def values_of_every_kind():
    return [
        0, 1, -1, 2, 999999999999, -999999999999,
        True, False,
        None,
        "", " ", "a", "0", "1", "-1/2", "1 2", "Ratio(1)",
        (), (1,), (1, 2), (0, 0), (True, None), ((1, 2), (3, 4)), (Ratio(1), Ratio(2)),
        [], [1], [1, 2], [Ratio(1), Ratio(2)], [[], [[]]],
        {}, {1: 2}, {"x": 1, "y": 2}, {"number": 1, "under": 2},
        Ratio(0), Ratio(1), Ratio(-1, 2),
        Point(0, 0), Point(1, 2), Point(Ratio(-1, 2), Ratio(3, 4)),
        Line(Point(0, 0), Point(1, 2)),
        AboutError(1), BadText("1"),
        nested(3), nested(29), nested(30),
    ]


def values_of_all_classes():
    """The same, and charts and lands, whose signs have meanings of their own."""
    text = "mark a 0 0\nmark b 4 0\nmark c 0 4"
    return values_of_every_kind() + [
        text, "mark d 5 5", ("a", "b", "c"), ["a", "b", "c"], (("a",), ("b",), ("c",)), [["a"], ["b"], ["c"]],
        (1, -1, 1), [1, -1, 1], (True, -1, True), ((1, -1, 1),), ("place", Point(1, 1)), ("never", ()), ("mark", "a"),
        ((1, 1), (5, 1), (1, 5)), [(1, 1), (5, 1), (1, 5)], {"a": 1}, {(1, -1, 1): "a"},
        Chart(text), Chart(text + "\nmark d 5 5"), Land(((1, 1), (5, 1), (1, 5))),
    ]


def shapes_of(value):
    """All values that differ from this one in one place, at any depth: of another kind, more, less, in another order."""
    yield from [None, True, False, 0, 1, "", "a", (), [], {}, (value,), [value], {0: value}, Point(0, 0), Ratio(1)]
    if type(value) is int:
        yield from [value + 1, value - 1, -value, 2 * value, str(value), Ratio(value)]
        if value in (0, 1):
            yield bool(value)
    elif type(value) is str:
        yield from [value + "a", value[:-1], value.upper(), value + " ", value[::-1]]
    elif type(value) is Ratio:
        yield from [value + 1, -value, value.number, value.text]
    elif type(value) is Point:
        yield from [Point(value.x, value.y + 1), Point(value.x - Ratio(1, 2), value.y), value.text, (value.x, value.y)]
    elif type(value) is tuple:
        yield from [list(value), value[:-1], value[1:], value + (0,), value[::-1], value + value]
        for at, part in enumerate(value):
            yield value[:at] + (part,) + value[at:]
            yield from [value[:at] + (other,) + value[at + 1:] for other in shapes_of(part)]


def is_same(one, other):
    """Whether two values are the same at all depths, and of the same kinds."""
    if type(one) is not type(other):
        return False
    if type(one) in (tuple, list):
        return len(one) == len(other) and all(is_same(a, b) for a, b in zip(one, other))
    return one == other


def is_integer(value):
    return type(value) is int


def is_number(value):
    return type(value) is int or type(value) is Ratio


class Case(unittest.TestCase):

    def refused(self, error, value, call, *args, **named):
        """The call raises just this error, with this very value."""
        with self.assertRaises(error) as caught:
            call(*args, **named)
        self.assertIs(type(caught.exception), error)
        self.assertIs(caught.exception.value, value)

    def pair_refused(self, error, pair, call, *args, **named):
        """The call raises just this error, with a tuple of these very two values."""
        with self.assertRaises(error) as caught:
            call(*args, **named)
        self.assertIs(type(caught.exception), error)
        value = caught.exception.value
        self.assertIs(type(value), tuple)
        self.assertEqual(len(value), 2)
        self.assertIs(value[0], pair[0])
        self.assertIs(value[1], pair[1])

    def told(self, ratio, number, under=1):
        """What was told is the Ratio of these least terms."""
        self.assertIs(type(ratio), Ratio)
        self.assertIs(type(ratio.number), int)
        self.assertIs(type(ratio.under), int)
        self.assertEqual((ratio.number, ratio.under), (number, under))
