"""Values of every kind that a caller may hand in, and how refusing them is tested."""

import unittest

from seenabout.errors import AboutError, BadText
from seenabout.points import Line, Point
from seenabout.ratios import Ratio


def nested(depth):
    """A value that is nested so deep, of tuples, lists and dicts in turn."""
    value = Ratio(1, 2)
    for level in range(depth):
        value = [(value, 1), [value, "a"], {"a": value}][level % 3]
    return value


def values_of_every_kind():
    return [
        0, 1, -1, 2, 999999999999, -999999999999,
        True, False,
        None,
        "", " ", "a", "0", "1", "-1/2", "1 2", "Ratio(1)",
        (), (1,), (1, 2), (0, 0), (True, None), ((1, 2), (3, 4)), (Ratio(1), Ratio(2)),
        [], [1], [1, 2], [Ratio(1), Ratio(2)], [[], [[]]],
        {}, {1: 2}, {"x": 1, "y": 2}, {"number": 1, "under": 2},
        Ratio(0), Ratio(1), Ratio(-1, 2),
        Point(0, 0), Point(1, 2), Point(Ratio(-1, 2), Ratio(3, 4)),
        Line(Point(0, 0), Point(1, 2)),
        AboutError(1), BadText("1"),
        nested(3), nested(29), nested(30),
    ]


def is_integer(value):
    return type(value) is int


def is_number(value):
    return type(value) is int or type(value) is Ratio


class Case(unittest.TestCase):

    def refused(self, error, value, call, *args, **named):
        """The call raises just this error, with this very value."""
        with self.assertRaises(error) as caught:
            call(*args, **named)
        self.assertIs(type(caught.exception), error)
        self.assertIs(caught.exception.value, value)

    def pair_refused(self, error, pair, call, *args, **named):
        """The call raises just this error, with a tuple of these very two values."""
        with self.assertRaises(error) as caught:
            call(*args, **named)
        self.assertIs(type(caught.exception), error)
        value = caught.exception.value
        self.assertIs(type(value), tuple)
        self.assertEqual(len(value), 2)
        self.assertIs(value[0], pair[0])
        self.assertIs(value[1], pair[1])

    def told(self, ratio, number, under=1):
        """What was told is the Ratio of these least terms."""
        self.assertIs(type(ratio), Ratio)
        self.assertIs(type(ratio.number), int)
        self.assertIs(type(ratio.under), int)
        self.assertEqual((ratio.number, ratio.under), (number, under))
