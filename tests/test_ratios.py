"""Point 4, and what point 2 says of numbers."""

import operator
import unittest
from fractions import Fraction
from math import gcd

from seenabout.errors import BadRatio, BadText
from seenabout.ratios import Ratio
from tests.wrong import Case, is_integer, is_number, nested, values_of_every_kind

SMALL = [Ratio(number, under) for under in (1, 2, 3, 6, 7) for number in range(-7, 8)]
INTEGERS = [-999999999999, -3, -2, -1, 0, 1, 2, 3, 12, 999999999999]
ARITHMETIC = [operator.add, operator.sub, operator.mul]
ORDER = [operator.lt, operator.le, operator.gt, operator.ge]


def worth(number):
    return Fraction(number.number, number.under) if isinstance(number, Ratio) else Fraction(number)


class Made(Case):

    def test_least_terms(self):
        for number in range(-13, 14):
            for under in [n for n in range(-13, 14) if n != 0]:
                ratio = Ratio(number, under)
                exact = Fraction(number, under)
                self.told(ratio, exact.numerator, exact.denominator)

    def test_named_terms(self):
        self.told(Ratio(4, 8), 1, 2)
        self.told(Ratio(4, -8), -1, 2)
        self.told(Ratio(-4, 8), -1, 2)
        self.told(Ratio(-4, -8), 1, 2)
        self.told(Ratio(0, 5), 0, 1)
        self.told(Ratio(0, -5), 0, 1)
        self.told(Ratio(6, 3), 2, 1)
        self.told(Ratio(999999999999, 999999999998), 999999999999, 999999999998)

    def test_under_is_1_if_left_out(self):
        self.told(Ratio(7), 7)
        self.told(Ratio(-7), -7)
        self.told(Ratio(0), 0)

    def test_by_names(self):
        self.told(Ratio(under=-4, number=2), -1, 2)
        self.told(Ratio(number=3), 3)
        self.told(Ratio(3, under=6), 1, 2)

    def test_wrong_number(self):
        for value in values_of_every_kind():
            if not is_integer(value):
                self.pair_refused(BadRatio, (value, 1), Ratio, value)
                self.pair_refused(BadRatio, (value, 3), Ratio, value, 3)
                self.pair_refused(BadRatio, (value, 0), Ratio, value, 0)
                self.pair_refused(BadRatio, (value, 2), Ratio, under=2, number=value)

    def test_wrong_under(self):
        for value in values_of_every_kind():
            if not is_integer(value):
                self.pair_refused(BadRatio, (3, value), Ratio, 3, value)
                self.pair_refused(BadRatio, (0, value), Ratio, under=value, number=0)

    def test_both_wrong(self):
        values = [value for value in values_of_every_kind() if not is_integer(value)]
        for one, other in zip(values, values[1:]):
            self.pair_refused(BadRatio, (one, other), Ratio, one, other)

    def test_under_0(self):
        for number in INTEGERS:
            self.pair_refused(BadRatio, (number, 0), Ratio, number, 0)


class Texts(Case):

    def test_text_and_repr(self):
        for ratio, text, shown in [
            (Ratio(3), "3", "Ratio(3)"), (Ratio(0), "0", "Ratio(0)"), (Ratio(-5), "-5", "Ratio(-5)"),
            (Ratio(1, -2), "-1/2", "Ratio(-1, 2)"), (Ratio(6, 4), "3/2", "Ratio(3, 2)"),
            (Ratio(10, 100), "1/10", "Ratio(1, 10)"), (Ratio(8, 4), "2", "Ratio(2)"),
            (Ratio(-999999999999, 1000), "-999999999999/1000", "Ratio(-999999999999, 1000)"),
        ]:
            self.assertIs(type(ratio.text), str)
            self.assertEqual(ratio.text, text)
            self.assertEqual(repr(ratio), shown)

    def test_of_each_text_of_a_ratio(self):
        for number in range(-30, 31):
            for under in range(1, 31):
                text = f"{number}/{under}" if under > 1 else f"{number}"
                if gcd(number, under) == 1:
                    self.told(Ratio.of(text), number, under)
                    self.assertEqual(Ratio.of(text).text, text)
                else:
                    self.refused(BadText, text, Ratio.of, text)

    def test_of_by_name_and_off_an_object(self):
        self.told(Ratio.of(text="-1/2"), -1, 2)
        self.told(Ratio(5).of("12"), 12)

    def test_of_no_text_of_a_ratio(self):
        for text in [
            "", " ", "-", "/", "+", "+1", "01", "00", "-0", "-01", "0/1", "0/3", "1/1", "-3/1", "2/4", "4/2",
            "1/-2", "-1/-2", "1/0", "0/0", "-1/0", " 1", "1 ", " 1/2", "1/2 ", "1 /2", "1/ 2", "- 1", "1\n", "\n1",
            "1\n/2", "3/", "/3", "-/3", "--1", "-+1", "1//2", "1/2/3", "1/02", "01/2", "1/+2", "1.0", "1.5", "0.5",
            "1e3", "1_000", "0x1", "a", "1a", "a1", "1/a", "one", "None", "True", "Ratio(1)", "1,2", "1 2", "(1, 2)",
            "1-", "1/2-", "1-2", "inf", "nan",
        ]:
            self.refused(BadText, text, Ratio.of, text)

    def test_of_no_string(self):
        for value in values_of_every_kind():
            if not isinstance(value, str):
                self.refused(BadText, value, Ratio.of, value)
                self.refused(BadText, value, Ratio.of, text=value)

    def test_numbers_with_very_many_figures_are_read_back(self):
        ratio = Ratio(-999999999999, 999999999989)
        while len(ratio.text) < 12000:
            ratio = ratio * ratio - 1
            again = Ratio.of(ratio.text)
            self.assertEqual((again.number, again.under), (ratio.number, ratio.under))
            self.assertEqual(repr(ratio), "Ratio(" + ratio.text.replace("/", ", ") + ")")

    def test_figures_of_long_numbers(self):
        for length in [1, 2, 63, 64, 65, 127, 128, 129, 200, 5000]:
            one_and_noughts = 10 ** length
            self.assertEqual(Ratio(one_and_noughts).text, "1" + "0" * length)
            self.assertEqual(Ratio(-one_and_noughts - 7).text, "-1" + "0" * (length - 1) + "7")
            self.assertEqual(Ratio(one_and_noughts - 1).text, "9" * length)
            self.assertEqual(Ratio.of("1" + "0" * length).number, one_and_noughts)
            self.assertEqual(Ratio.of("-1/" + "9" * length + "8").under, one_and_noughts * 10 - 2)
            text = "0" * length + "1"
            self.refused(BadText, text, Ratio.of, text)


class Reckoned(Case):

    def test_with_ratios(self):
        for sign in ARITHMETIC:
            for one in SMALL:
                for other in SMALL:
                    exact = sign(worth(one), worth(other))
                    self.told(sign(one, other), exact.numerator, exact.denominator)

    def test_with_integers_on_either_side(self):
        for sign in ARITHMETIC:
            for ratio in SMALL:
                for number in INTEGERS:
                    exact = sign(worth(ratio), number)
                    self.told(sign(ratio, number), exact.numerator, exact.denominator)
                    exact = sign(number, worth(ratio))
                    self.told(sign(number, ratio), exact.numerator, exact.denominator)

    def test_some_by_hand(self):
        self.told(Ratio(1, 2) + Ratio(1, 3), 5, 6)
        self.told(Ratio(1, 2) - Ratio(1, 3), 1, 6)
        self.told(Ratio(2, 3) * Ratio(3, 4), 1, 2)
        self.told(1 - Ratio(1, 3), 2, 3)
        self.told(Ratio(1, 3) - 1, -2, 3)
        self.told(sum([Ratio(1, 2), Ratio(1, 3), Ratio(1, 6)]), 1)

    def test_negative_and_worth_without_sign(self):
        for ratio in SMALL:
            exact = worth(ratio)
            self.told(-ratio, -exact.numerator, exact.denominator)
            self.told(abs(ratio), abs(exact.numerator), exact.denominator)

    def test_divided(self):
        for one in SMALL:
            for other in SMALL + INTEGERS:
                if worth(other) != 0:
                    exact = worth(one) / worth(other)
                    self.told(one.divided(other), exact.numerator, exact.denominator)
        self.told(Ratio(1, 2).divided(other=Ratio(-3, 4)), -2, 3)

    def test_divided_by_0_or_no_number(self):
        for nought in [0, Ratio(0), Ratio(0, -3)]:
            self.refused(BadRatio, nought, Ratio(1, 2).divided, nought)
            self.refused(BadRatio, nought, Ratio(0).divided, other=nought)
        for value in values_of_every_kind():
            if not is_number(value):
                self.refused(BadRatio, value, Ratio(1, 2).divided, value)

    def test_nothing_else_is_reckoned_with(self):
        for value in values_of_every_kind():
            if not is_number(value):
                for sign in ARITHMETIC:
                    for ratio in [Ratio(0), Ratio(1), Ratio(-1, 2)]:
                        with self.assertRaises(TypeError):
                            sign(ratio, value)
                        with self.assertRaises(TypeError):
                            sign(value, ratio)

    def test_other_signs_are_not_described(self):
        for sign in [operator.truediv, operator.floordiv, operator.mod, operator.pow, operator.and_]:
            for other in [Ratio(2), 2]:
                with self.assertRaises(TypeError):
                    sign(Ratio(1), other)
                with self.assertRaises(TypeError):
                    sign(other, Ratio(1))


class Compared(Case):

    def test_order_with_ratios(self):
        for sign in ORDER:
            for one in SMALL:
                for other in SMALL:
                    self.assertIs(sign(one, other), sign(worth(one), worth(other)))

    def test_order_with_integers_on_either_side(self):
        for sign in ORDER:
            for ratio in SMALL:
                for number in INTEGERS:
                    self.assertIs(sign(ratio, number), sign(worth(ratio), number))
                    self.assertIs(sign(number, ratio), sign(number, worth(ratio)))

    def test_ratios_are_sorted_by_their_worth(self):
        self.assertEqual(sorted([Ratio(1), Ratio(-1, 2), Ratio(2, 3), Ratio(3, 5)]),
                         [Ratio(-1, 2), Ratio(3, 5), Ratio(2, 3), Ratio(1)])

    def test_no_order_beside_anything_else(self):
        for value in values_of_every_kind():
            if not is_number(value):
                for sign in ORDER:
                    with self.assertRaises(TypeError):
                        sign(Ratio(1), value)
                    with self.assertRaises(TypeError):
                        sign(value, Ratio(1))

    def test_equal_to_equal_ratios(self):
        for one in SMALL:
            for other in SMALL:
                self.assertIs(one == other, worth(one) == worth(other))
                self.assertIs(one != other, worth(one) != worth(other))
        self.assertIs(Ratio(2, 4) == Ratio(-1, -2), True)

    def test_equal_to_nothing_else(self):
        for value in values_of_every_kind():
            for ratio in [Ratio(0), Ratio(1), Ratio(2), Ratio(-1, 2)]:
                if not isinstance(value, Ratio):
                    self.assertIs(ratio == value, False)
                    self.assertIs(value == ratio, False)
                    self.assertIs(ratio != value, True)
        self.assertIs(Ratio(3) == 3, False)
        self.assertIs(3 == Ratio(3), False)
        self.assertIs(Ratio(1) == True, False)
        self.assertIs(Ratio(1, 2) == "1/2", False)
        self.assertIs(Ratio(1, 2) == (1, 2), False)


class Unchanged(Case):

    def test_no_operation_changes_a_ratio(self):
        one, other = Ratio(-3, 4), Ratio(5, 6)
        for sign in ARITHMETIC + ORDER + [operator.eq, operator.ne, Ratio.divided]:
            for first, second in [(one, other), (other, one), (one, one), (one, 7)]:
                sign(first, second)
                self.told(one, -3, 4)
                self.told(other, 5, 6)
        for done in [operator.neg, abs, repr]:
            done(one)
            self.told(one, -3, 4)

    def test_signs_that_assign_make_a_new_ratio(self):
        for sign in [operator.iadd, operator.isub, operator.imul]:
            for other in [Ratio(1, 3), 2]:
                stands = Ratio(1, 2)
                self.assertIsNot(sign(stands, other), stands)
                self.told(stands, 1, 2)

    def test_what_is_refused_changes_nothing(self):
        ratio = Ratio(1, 2)
        for value in [None, True, "a", Ratio(0), nested(30)]:
            with self.assertRaises(BadRatio):
                ratio.divided(value)
            self.told(ratio, 1, 2)
            if not isinstance(value, Ratio):
                with self.assertRaises(TypeError):
                    ratio += value
                self.told(ratio, 1, 2)


if __name__ == "__main__":
    unittest.main()
