"""Point 19, and what point 2 says of errors."""

import unittest

from seenabout import errors
from seenabout.errors import AboutError
from tests.wrong import Case, values_of_every_kind

NAMES = """BadRatio BadText BadPoint BadNumber Off BadChart NoMark BadLine Needed AtMark BadNames
BadSides NoCell BadCells BadLand BadRound OverMark OnLine BadLog BadScript NoLap BadAsk Unlike
BadOffers BadAsks Lost NothingToUndo NothingToRedo NoTrial BadJournal BadSay""".split()


class Errors(Case):

    def test_about_error_stands_directly_below_value_error(self):
        self.assertEqual(AboutError.__bases__, (ValueError,))

    def test_each_error_stands_directly_below_about_error(self):
        for name in NAMES:
            with self.subTest(name):
                self.assertEqual(getattr(errors, name).__bases__, (AboutError,))
                self.assertEqual(getattr(errors, name).__name__, name)

    def test_no_error_is_another_one(self):
        all_of_them = [getattr(errors, name) for name in NAMES]
        self.assertEqual(len(all_of_them), 31)
        for one in all_of_them:
            self.assertEqual([other for other in all_of_them if issubclass(one, other)], [one])

    def test_there_are_no_others(self):
        here = [name for name, kind in vars(errors).items() if isinstance(kind, type)]
        self.assertEqual(sorted(here), sorted(NAMES + ["AboutError"]))

    def test_each_is_defined_in_errors(self):
        for name in NAMES + ["AboutError"]:
            self.assertEqual(getattr(errors, name).__module__, "seenabout.errors")

    def test_each_keeps_any_value(self):
        for name in NAMES + ["AboutError"]:
            kind = getattr(errors, name)
            for value in values_of_every_kind():
                error = kind(value)
                self.assertIs(type(error), kind)
                self.assertIs(error.value, value)

    def test_each_is_raised_and_caught_as_about_error_and_value_error(self):
        for name in NAMES + ["AboutError"]:
            for above in (AboutError, ValueError):
                with self.assertRaises(above) as caught:
                    raise getattr(errors, name)((name, 1))
                self.assertEqual(caught.exception.value, (name, 1))

    def test_one_error_is_not_caught_as_another_one(self):
        with self.assertRaises(errors.BadText):
            try:
                raise errors.BadText("a")
            except errors.BadRatio:
                pass


if __name__ == "__main__":
    unittest.main()
