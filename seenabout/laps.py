"""Laps: scripts that lead from a line to itself, followed again and again."""

from math import gcd

from seenabout.errors import BadNumber, NoLap
from seenabout.lands import Stretch, behind, reduced, split, united
from seenabout.ratios import Ratio, as_ratio, is_integer, is_number
from seenabout.scripts import STILL, across, check_marks, fates, pair_of

_MOST = 30


def _fits(step, ahead):
    """Whether a step can stand in a lap behind the one ahead, which is no skip."""
    if step[0] == "skip" or step[1] in step[3:]:
        return False
    is_same_pair = step[3] in ahead[3:] and step[4] in ahead[3:]
    return not is_same_pair and step[1] not in ahead[3:]


def _check_lap(steps):
    """Refuse steps that are no lap."""
    for number, step in enumerate(steps):
        # Ahead of the first one counts the last one, which no skip ever is.
        if not _fits(step, steps[number - 1]):
            raise NoLap(number + 1)


def _check_many(many):
    """Refuse any value that is no number of laps."""
    if not is_integer(many) or not 1 <= many <= _MOST:
        raise BadNumber(many)


def _signed(numbers):
    """The numbers, not all of them 0, with such signs that the first one but 0 is above 0."""
    first = [number for number in numbers if number != 0][0]
    return tuple([-number for number in numbers]) if first < 0 else tuple(numbers)


def _table(chart, steps, number):
    """The table by which the steps lead from the line of the last one, with this number, to itself."""
    here = number, STILL
    for step in steps:
        above, under, _ = across(chart, step, here)
        here = pair_of(chart, step), reduced((*above, *under))
    return here[1]


def _turns(table):
    """The least of 1, 2, 3, 4, 6 so many of which lead each share to itself, or None."""
    p, q, r, s = STILL
    # With fractions five never do if one does not.
    for many in range(1, 7):
        p, q, r, s = behind((p, q, r, s), table)
        if q == 0 and r == 0 and p == s:
            return many
    return None


def _fixed(table):
    """The (a, b, c) of which a u u + b u + c is 0 where the table leads a share u to itself."""
    p, q, r, s = table
    common = gcd(r, s - p, q)
    return (0, 0, 0) if common == 0 else _signed([r // common, (s - p) // common, -q // common])


def _ahead_of(table, part):
    """The shares that a table leads to a part, among those for which r u + s is above 0."""
    p, q, r, s = table
    conditions = []
    for end, sign in ((part.low, 1), (part.high, -1)):
        if end is not None:
            number, under = end[0].number * sign, end[0].under * sign
            conditions.append(((p * under - r * number, q * under - s * number), not end[1]))
    found, _ = split(Stretch(None, None), conditions)
    return found


class Lap:
    """A script in a chart that leads from the line of its last pair back to it.

    Besides what callers are told: number, that of this pair; once, the table of
    one lap in which r u + s is above 0 wherever it is done; parts, the stretches
    from which it is.
    """

    def __init__(self, chart, script):
        check_marks(chart, script.steps)
        _check_lap(script.steps)
        number = pair_of(chart, script.steps[-1])
        once = _table(chart, script.steps, number)
        told = fates(chart, script.steps, 0, (number, STILL), Stretch(None, None))
        self.chart = chart
        self.script = script
        self.number = number
        self.once = once
        self.parts = united([part for word, _, _, part in told if word == "done"])
        self.pair = chart.pairs[number]
        self.table = _signed(once)
        self.turns = _turns(once)
        self.fixed = _fixed(once)

    def led(self, share, many=1):
        """Where so many laps lead from this share, or with which lap and line they fail."""
        if not is_number(share):
            raise BadNumber(share)
        _check_many(many)
        at = as_ratio(share)
        for lap in range(1, many + 1):
            here = self.number, (0, at.number, 0, at.under)
            word, line, there, _ = fates(self.chart, self.script.steps, 0, here, Stretch(None, None))[0]
            if word != "done":
                return word, lap, line
            at = Ratio(there[1][1], there[1][3])
        return "done", at

    def starts(self, many=1):
        """As few stretches as can be, of all shares from which so many laps are done."""
        _check_many(many)
        found, table = self.parts, STILL
        for _ in range(many - 1):
            table = behind(table, self.once)
            ahead = [one for one in [_ahead_of(table, part) for part in self.parts] if one is not None]
            met = [part.meet(one) for part in found for one in ahead]
            found = [part for part in met if part is not None]
        return tuple([(part.low, part.high) for part in united(found)])
