"""Fractions in least terms, by which everything is reckoned."""

from math import gcd

from seenabout.errors import BadRatio, BadText

# Python's own str and int stop at 4300 figures, and what is told may have
# more: so numbers are written and read in parts of so many figures.
_FIGURES = 64
_PART = 10 ** 64


def is_integer(value):
    """Whether any value is an int that is not a bool."""
    return isinstance(value, int) and not isinstance(value, bool)


def is_number(value):
    """Whether any value is an integer or a Ratio."""
    return is_integer(value) or isinstance(value, Ratio)


def as_ratio(number):
    """The Ratio that is worth as much as this integer or Ratio."""
    return number if isinstance(number, Ratio) else Ratio(number)


def difference(one, other):
    """one - other of two Ratios, times both unders: an integer with the same sign."""
    return one.number * other.under - other.number * one.under


def written(integer):
    """The figures of an integer, however many, with its sign if it is below 0."""
    parts = []
    rest = abs(integer)
    while rest >= _PART:
        rest, part = divmod(rest, _PART)
        parts.append(str(part).zfill(_FIGURES))
    parts.append(str(rest))
    if integer < 0:
        parts.append("-")
    return "".join(parts[::-1])


def _has_figures_alone(word):
    return word.isascii() and word.isdigit()


def _worth(word):
    """The integer that a word of figures alone writes, however many."""
    worth = 0
    padded = word.zfill(-(-len(word) // _FIGURES) * _FIGURES)
    for start in range(0, len(padded), _FIGURES):
        worth = worth * _PART + int(padded[start:start + _FIGURES])
    return worth


def read_ratio(value):
    """The Ratio of which any value is the text, or None if it is of none."""
    if not isinstance(value, str):
        return None
    above, stroke, below = value.partition("/")
    words = [above.removeprefix("-"), below if stroke else "1"]
    if not all([_has_figures_alone(word) for word in words]):
        return None
    number, under = [_worth(word) for word in words]
    if under == 0:
        return None
    ratio = Ratio(-number if above.startswith("-") else number, under)
    # Only this tells '01', '-0', '1/1' and '2/4' from the texts they stand for.
    return ratio if ratio.text == value else None


class Ratio:
    """The fraction number / under, in least terms, under being at least 1."""

    def __init__(self, number, under=1):
        if not is_integer(number) or not is_integer(under) or under == 0:
            raise BadRatio((number, under))
        common = gcd(number, under) if under > 0 else -gcd(number, under)
        self.number = number // common
        self.under = under // common

    @property
    def text(self):
        """As in 3, -1/2, 0."""
        if self.under == 1:
            return written(self.number)
        return f"{written(self.number)}/{written(self.under)}"

    @staticmethod
    def of(text):
        """The Ratio of which this is the text."""
        ratio = read_ratio(text)
        if ratio is None:
            raise BadText(text)
        return ratio

    def divided(self, other):
        """This Ratio divided by a number other than 0."""
        if not is_number(other) or as_ratio(other).number == 0:
            raise BadRatio(other)
        by = as_ratio(other)
        return Ratio(self.number * by.under, self.under * by.number)

    def __add__(self, other):
        if not is_number(other):
            return NotImplemented
        more = as_ratio(other)
        return Ratio(self.number * more.under + more.number * self.under, self.under * more.under)

    def __radd__(self, other):
        if not is_number(other):
            return NotImplemented
        return as_ratio(other) + self

    def __sub__(self, other):
        if not is_number(other):
            return NotImplemented
        less = as_ratio(other)
        return Ratio(difference(self, less), self.under * less.under)

    def __rsub__(self, other):
        if not is_number(other):
            return NotImplemented
        return as_ratio(other) - self

    def __mul__(self, other):
        if not is_number(other):
            return NotImplemented
        times = as_ratio(other)
        return Ratio(self.number * times.number, self.under * times.under)

    def __rmul__(self, other):
        if not is_number(other):
            return NotImplemented
        return as_ratio(other) * self

    def __neg__(self):
        return Ratio(-self.number, self.under)

    def __abs__(self):
        return Ratio(abs(self.number), self.under)

    def __lt__(self, other):
        if not is_number(other):
            return NotImplemented
        return difference(self, as_ratio(other)) < 0

    def __le__(self, other):
        if not is_number(other):
            return NotImplemented
        return difference(self, as_ratio(other)) <= 0

    def __gt__(self, other):
        if not is_number(other):
            return NotImplemented
        return difference(self, as_ratio(other)) > 0

    def __ge__(self, other):
        if not is_number(other):
            return NotImplemented
        return difference(self, as_ratio(other)) >= 0

    def __eq__(self, other):
        return isinstance(other, Ratio) and self.number == other.number and self.under == other.under

    def __repr__(self):
        if self.under == 1:
            return f"Ratio({written(self.number)})"
        return f"Ratio({written(self.number)}, {written(self.under)})"
