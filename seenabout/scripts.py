"""Scripts: directions by marks, and what comes of them from all points of a land at once.

Who has done a step stands on the line of a pair, and all further steps lead
from line to line. A table (p, q, r, s) tells where: who was at share u of an
earlier line is now at share (p u + q) / (r u + s), r u + s being above 0. A
form (rise, at) stands for the number rise u + at: its sign tells on which side
of something one is. So all that decides what comes of a way cuts stretches of
that earlier line at single shares, and regions of the plane by single lines.
Where somebody is now, here, is (number of the pair, table).
"""

from seenabout.charts import is_name, pair_number, spots_of_pair
from seenabout.errors import BadScript, NoMark
from seenabout.lands import Region, Stretch, check_no_plane, on_and_off, reduced, share_of, split, united
from seenabout.plane import height_at, line_through, minus, opposite, point_of, spot_of
from seenabout.points import check_point
from seenabout.ratios import Ratio

_MOST = 12
STILL = (1, 0, 0, 1)


def _are_two(one, other):
    """Whether two words are unlike names."""
    return is_name(one) and is_name(other) and one != other


def read_step(line):
    """The (word, name, word, name, name) of any value that is a line towards or from, otherwise None."""
    words = line.split(" ") if isinstance(line, str) else []
    if len(words) != 5 or words[0] not in ("towards", "from") or words[2] not in ("until", "between"):
        return None
    return tuple(words) if is_name(words[1]) and _are_two(words[3], words[4]) else None


def _read_many(word, most):
    """The integer from 1 to most that a word writes, without leading zeros, or None."""
    if len(word) > len(str(most)) or not word.isascii() or not word.isdigit() or word.startswith("0"):
        return None
    return int(word) if int(word) <= most else None


def _read_skip(line, most):
    """The ("skip", integer, "left", name, name) of a line that passes by at most so many, or None."""
    words = line.split(" ")
    if len(words) != 5 or words[0] != "skip" or words[2] != "left" or not _are_two(words[3], words[4]):
        return None
    many = _read_many(words[1], most)
    return None if many is None else ("skip", many, "left", words[3], words[4])


def _read_steps(text):
    """The steps of the text of a script."""
    if not isinstance(text, str):
        raise BadScript(0)
    lines, steps = text.split("\n"), []
    for number, line in enumerate(lines, start=1):
        step = read_step(line)
        if step is None and number > 1:
            step = _read_skip(line, len(lines) - number)
        if step is None or number > _MOST:
            raise BadScript(number)
        steps.append(step)
    return tuple(steps)


class Script:
    """The directions of this text."""

    def __init__(self, text):
        steps = _read_steps(text)
        self._text = text
        self.steps = steps

    @property
    def text(self):
        """The text by which it was created."""
        return self._text

    def __len__(self):
        return len(self.steps)

    def __eq__(self, other):
        return isinstance(other, Script) and self.text == other.text


def check_marks(chart, steps):
    """Refuse the first name of the steps that is no mark."""
    for step in steps:
        for name in step[3:] if step[0] == "skip" else (step[1], step[3], step[4]):
            if name not in chart:
                raise NoMark(name)


def pair_of(chart, step):
    """The number of the pair of a step."""
    return pair_number(chart, step[3], step[4])


def point_at(chart, number, share):
    """The Point at this share of the line of a pair."""
    one, other = chart.pairs[number]
    return chart[one].towards(chart[other], share)


def _gauge(chart, mark, number):
    """The lines above, under and whole for a mark that is not on the line of a pair.

    The way through the mark and a spot meets that line at the share
    above / under. On the line under is as high as whole; less on this side of
    it, as seen from the mark, and below 0 where a way from the mark leads off.
    """
    x, y, _ = spot_of(chart[mark])
    (begin_x, begin_y, _), _ = spots_of_pair(chart, number)
    a, b, c = chart.plane.lines[number]
    away = a * x + b * y + c
    lines = line_through(begin_x, begin_y, x, y), (a, b, c - away), (0, 0, -away)
    return [opposite(line) for line in lines] if away > 0 else lines


def _along(chart, line, here):
    """The form of the heights above a line of those who are here."""
    number, (p, q, r, s) = here
    first, last = [height_at(line, spot) for spot in spots_of_pair(chart, number)]
    return (last - first) * p + first * r, (last - first) * q + first * s


def _met(part, step, gauge):
    """Of those on a part: the parts that end the step, by its gauge, and the parts that do not."""
    above, under, whole = gauge
    strict = step[2] == "until"
    if step[0] == "towards":
        kept, lost = split(part, [(minus(under, whole), False)])
    else:
        kept, lost = split(part, [(under, True), (minus(whole, under), False)])
    inner, outer = split(kept, [(above, strict), (minus(under, above), strict)])
    done, failed = (outer, lost + [inner]) if strict else ([inner], lost + outer)
    return [one for one in done if one is not None], [one for one in failed if one is not None]


def _with_words(step, failed, at_mark):
    """The (word, part) of parts that do not end a step; at_mark are forms that are all 0 at its MARK alone."""
    if step[0] == "towards":
        return [("at", part) for part in failed]
    told = []
    for part in failed:
        on, off = on_and_off(part, at_mark)
        told.extend([("ever", one) for one in off])
        if on is not None:
            told.append(("at", on))
    return told


def across(chart, step, here):
    """The forms above, under and whole of those who are here, for a step whose MARK is not in its pair."""
    return [_along(chart, line, here) for line in _gauge(chart, step[1], pair_of(chart, step))]


def _led_across(chart, step, here, part):
    """What a step makes of those on a part of a line, if its MARK is not in its pair."""
    above, under, whole = across(chart, step, here)
    p, q, r, s = here[1]
    at_mark = (0, 1)
    if step[1] in chart.pairs[here[0]]:
        at_mark = (p, q) if step[1] == chart.pairs[here[0]][0] else (p - r, q - s)
    done, failed = _met(part, step, (above, under, whole))
    told = [(word, here, one) for word, one in _with_words(step, failed, [at_mark])]
    if done:
        there = (pair_of(chart, step), reduced((*above, *under)))
        told.extend([("done", there, one) for one in done])
    return told


def _led_along(chart, step, here, part):
    """What a step makes of those on a part of the very line of its pair, if its MARK is in it."""
    number, (p, q, r, s) = here
    strict = step[2] == "until"
    inner, (ahead, beyond) = split(part, [((p, q), strict), ((r - p, s - q), strict)])
    at = chart.pairs[number].index(step[1])
    goal = at if step[0] == "towards" else 1 - at
    if strict:
        told = [("done", here, ahead), ("done", here, beyond), ("done", (number, (0, goal, 0, 1)), inner)]
    else:
        word = "done" if step[0] == "towards" else "ever"
        told = [("done", here, inner), (word, (number, (0, 0, 0, 1)), ahead), (word, (number, (0, 1, 0, 1)), beyond)]
    return [fate for fate in told if fate[2] is not None]


def _led_to_mark(chart, step, here, part):
    """What a step makes of those on a part of a line, if its MARK is in its pair."""
    number = pair_of(chart, step)
    if here[0] == number:
        return _led_along(chart, step, here, part)
    on, off = on_and_off(part, [_along(chart, chart.plane.lines[number], here)])
    goal = (number, (0, chart.pairs[number].index(step[1]), 0, 1))
    told = [("done" if step[0] == "towards" else "ever", goal, one) for one in off]
    if on is not None:
        # Here both lines cross.
        first, last = [height_at(chart.plane.lines[here[0]], spot) for spot in spots_of_pair(chart, number)]
        cross = (0, first, 0, first - last) if first > last else (0, -first, 0, last - first)
        told.extend(_led_along(chart, step, (number, reduced(cross)), on))
    return told


def _led(chart, step, here, part):
    """What a step makes of those on a part: all (word, where they are then, part)."""
    if step[1] in chart.pairs[pair_of(chart, step)]:
        return _led_to_mark(chart, step, here, part)
    return _led_across(chart, step, here, part)


def _skipped(chart, step, here, part):
    """Of those on a part: the part of whom a skip passes lines by, and that of all others; None for nothing."""
    _, _, _, one, other = step
    x, y, _ = spot_of(chart[one])
    to_x, to_y, _ = spot_of(chart[other])
    left, others = split(part, [(_along(chart, line_through(x, y, to_x, to_y), here), True)])
    return left, others[0]


def fates(chart, steps, begin, here, part):
    """What comes of those on a part ahead of the step with this number: all (word, line, where they end, part)."""
    waiting, found = [(begin, here, part)], []
    while waiting:
        at, where, some = waiting.pop()
        if at == len(steps):
            found.append(("done", 0, where, some))
        elif steps[at][0] == "skip":
            left, others = _skipped(chart, steps[at], where, some)
            onward = [(at + 1 + steps[at][1], where, left), (at + 1, where, others)]
            waiting.extend([one for one in onward if one[2] is not None])
        else:
            for word, there, one in _led(chart, steps[at], where, some):
                if word == "done":
                    waiting.append((at + 1, there, one))
                else:
                    found.append((word, at + 1, there, one))
    return found


def _shares(region, above, under):
    """The stretch of all shares above / under, under being above 0, that there are in a region."""
    some = [(height_at(above, corner), height_at(under, corner)) for corner in region.corners]
    shares = [(Ratio(over, by), True) for over, by in some if by > 0]
    parts = united([Stretch(share, share) for share in shares])
    # Beside a corner where under is 0 the shares grow beyond all bounds.
    low = None if any([over < 0 and by == 0 for over, by in some]) else parts[0].low
    high = None if any([over > 0 and by == 0 for over, by in some]) else parts[-1].high
    return Stretch(low, high)


def _share_lines(chart, number):
    """The lines above and under: at spots on the line of a pair their share is above / under."""
    (x, y, _), (to_x, to_y, _) = spots_of_pair(chart, number)
    a, b = to_x - x, to_y - y
    return (a, b, -(a * x + b * y)), (0, 0, a * a + b * b)


def _set_out_to_mark(chart, step, region):
    """What a step makes of those in a region, if its MARK is in its pair, as _set_out tells it."""
    number = pair_of(chart, step)
    at = chart.pairs[number].index(step[1])
    on, off = on_and_off(region, [chart.plane.lines[number]])
    word = "done" if step[0] == "towards" else "ever"
    told = [(word, one, (0, 0, at), (0, 0, 1)) for one in off]
    if on is not None:
        told.append(("here", on, *_share_lines(chart, number)))
    return told


def _set_out(chart, step, region):
    """What the first step makes of those in a region: all (word, region, above, under).

    With "done" they come to the share above / under of the line of its pair;
    with "here" they stand on this line, at this share, and the step is ahead.
    """
    number = pair_of(chart, step)
    if step[1] in chart.pairs[number]:
        return _set_out_to_mark(chart, step, region)
    gauge = _gauge(chart, step[1], number)
    above, under, _ = gauge
    x, y, _ = spot_of(chart[step[1]])
    done, failed = _met(region, step, gauge)
    told = [(word, one, above, under) for word, one in _with_words(step, failed, [(1, 0, -x), (0, 1, -y)])]
    return told + [("done", one, above, under) for one in done]


def _all_fates(chart, steps, region):
    """What comes of those in a region: all (word, line, where they end, part, origin).

    Who set out from the region of the origin (region, above, under) passed the
    line of the first pair at share above / under, one of this part; without
    part they failed at once.
    """
    found = []
    for word, some, above, under in _set_out(chart, steps[0], region):
        origin = some, above, under
        if word in ("done", "here"):
            begin = 1 if word == "done" else 0
            here = pair_of(chart, steps[0]), STILL
            told = fates(chart, steps, begin, here, _shares(some, above, under))
            found.extend([(*fate, origin) for fate in told])
        else:
            found.append((word, 1, None, None, origin))
    return found


def step_end(chart, step, point):
    """("done", the Point at which a step from a Point ends), or ("at" or "ever", None)."""
    word, _, here, part, _ = _all_fates(chart, [step], Region([spot_of(point)], []))[0]
    if word != "done":
        return word, None
    return word, point_at(chart, here[0], share_of(here[1], part.some_share()))


def walked(chart, script, point):
    """How a walk from a Point ends, with which line, and the Points at which its steps ended."""
    check_marks(chart, script.steps)
    check_point(point)
    points, at = [point], 0
    while at < len(script):
        step = script.steps[at]
        if step[0] == "skip":
            if chart.line(step[3], step[4]).height(points[-1]) > 0:
                at = at + step[1]
        else:
            word, end = step_end(chart, step, points[-1])
            if word != "done":
                return word, at + 1, tuple(points)
            points.append(end)
        at += 1
    return "done", 0, tuple(points)


def _ends_told(chart, told):
    """The stretches in which those with these fates are done, in the sequence of the pairs."""
    found = []
    for number, pair in enumerate(chart.pairs):
        parts = [part.through(here[1]) for word, _, here, part, _ in told if word == "done" and here[0] == number]
        found.extend([(*pair, part.low, part.high) for part in united(parts)])
    return tuple(found)


def _fates_on(chart, script, land):
    """What comes of all who set out from points of a land."""
    check_marks(chart, script.steps)
    check_no_plane(land)
    return _all_fates(chart, script.steps, Region([(x, y, 1) for x, y in land.corners], []))


def ends(chart, script, land):
    """The stretches of all points at which walks from points of the land are done."""
    return _ends_told(chart, _fates_on(chart, script, land))


def failing(chart, script, land):
    """The ascending tuple of all (line, word) with which walks from points of the land fail."""
    told = {(line, word): True for word, line, _, _, _ in _fates_on(chart, script, land)}
    every = [(line, word) for line in range(1, len(script) + 1) for word in ("at", "ever")]
    return tuple([one for one in every if one in told])


def _origin(fate):
    """A Point from which somebody with this fate sets out."""
    _, _, _, part, (region, above, under) = fate
    if part is not None:
        share = part.some_share()
        line = minus([share.under * k for k in above], [share.number * k for k in under])
        region = region.cut(line, False).cut(opposite(line), False)
    return point_of(region.some_spot())


def leads(chart, script, land):
    """The stretches at which all walks from the land are done, or a point of the land from which one fails."""
    told = _fates_on(chart, script, land)
    lost = [fate for fate in told if fate[0] != "done"]
    return ("not", _origin(lost[0])) if lost else ("sure", _ends_told(chart, told))


def _are_same(told, value):
    """Whether any value is these stretches; 1 is not True."""
    if value != told:
        return False
    return all([end is None or isinstance(end[1], bool) for stretch in value for end in stretch[2:]])


def shows_leads(chart, script, land, value):
    """Whether any value is such a result of leads."""
    told = leads(chart, script, land)
    if not isinstance(value, tuple) or len(value) != 2:
        return False
    word, evidence = value
    if word == "sure":
        return told[0] == "sure" and _are_same(told[1], evidence)
    return word == "not" and evidence in land and walked(chart, script, evidence)[0] != "done"
