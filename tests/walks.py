"""Scripts and laps all over again: walks from many starts, and starts that are found by going backwards from an end."""

import itertools
import random
from fractions import Fraction

from seenabout.lands import Land
from seenabout.scripts import Script, ends
from tests import plain

LITTLE = Fraction(1, 10 ** 40)


def fraction(told):
    return Fraction(told.number, told.under)


def text_of(steps):
    return "\n".join(" ".join(str(word) for word in step) for step in steps)


def pair_of(marks, step):
    """The pair of a step, in the sequence of the chart."""
    return tuple(name for name in marks if name in step[3:])


def drawn_step(names, told):
    return (told.choice(["towards", "from"]), told.choice(names), told.choice(["until", "between"]), *told.sample(names, 2))


def drawn_script(marks, many, told):
    """Steps with many lines, drawn as they come."""
    names, steps = list(marks), []
    for line in range(many):
        if 0 < line < many - 1 and told.random() < 0.3:
            steps.append(("skip", told.randint(1, many - 1 - line), "left", *told.sample(names, 2)))
        else:
            steps.append(drawn_step(names, told))
    return steps


def led_script(marks, many, told):
    """Steps with many lines, of which most are done from some place; with a skip here and there."""
    at, steps = (Fraction(told.randint(-5, 5)), Fraction(told.randint(-5, 5))), []
    for line in range(many):
        if 0 < line < many - 1 and told.random() < 0.25:
            steps.append(("skip", told.randint(1, many - 1 - line), "left", *told.sample(list(marks), 2)))
            continue
        for _ in range(30):
            step = drawn_step(list(marks), told)
            end = plain.step_end(marks, step, at)
            if end not in ("at", "ever"):
                break
        at = at if end in ("at", "ever") else end
        steps.append(step)
    return steps


def drawn_lap(marks, many, told):
    """Steps of a lap with many lines, most of them done from some place; None if there are none after some tries."""
    for _ in range(20):
        at, steps = (Fraction(told.randint(-9, 9)), Fraction(told.randint(-9, 9))), []
        for _ in range(many * 30):
            step = drawn_step(list(marks), told)
            end = plain.step_end(marks, step, at)
            ahead = steps[-1] if steps else step
            beside = [ahead] if len(steps) < many - 1 else [ahead, steps[0]]
            if end in ("at", "ever") or any(step[1] in step[3:] + one[3:] for one in beside[:1]):
                continue
            if steps and any(set(step[3:]) == set(one[3:]) for one in beside):
                continue
            if len(steps) == many - 1 and steps[0][1] in step[3:]:
                continue
            at, steps = end, steps + [step]
            if len(steps) == many:
                return steps
    return None


def starts_in(marks, corners, told, many):
    """Places of a land and its border, its corners and the marks in it among them."""
    corners = [tuple(map(Fraction, corner)) for corner in corners]
    edges = list(zip(corners, corners[1:] + corners[:1]))
    some = [at for at in plain.crossings(plain.lines_of(marks) + edges) if plain.in_land(tuple(corners), at)]
    found = corners + [at for at in marks.values() if plain.in_land(tuple(corners), at)] + told.sample(some, min(len(some), many))
    for _ in range(many):
        weights = [told.choice([0, 1, 1, 2, 7]) for _ in corners]
        if sum(weights):
            found.append(tuple(sum(at[k] * weight for at, weight in zip(corners, weights)) / sum(weights) for k in (0, 1)))
    return found + [plain.between(one, other, Fraction(1, 2)) for one, other in itertools.combinations(found[:7], 2)]


def last_step(marks, steps, at):
    """The step of a walk that is done that was done last."""
    line, last = 0, None
    while line < len(steps):
        step = steps[line]
        line += 1
        if step[0] == "skip":
            line += step[1] if plain.height(marks[step[3]], marks[step[4]], at) > 0 else 0
        else:
            at, last = plain.step_end(marks, step, at), step
    return last


def end_of(marks, steps, at):
    """(pair, share) of the end of a walk, or None if it fails."""
    word, _, places = plain.walked(marks, steps, at)
    if word != "done":
        return None
    one, other = pair_of(marks, last_step(marks, steps, at))
    return (one, other), plain.on_way(marks[one], marks[other], places[-1])


def is_within(stretch, share):
    """Whether a share belongs to (low, high)."""
    low, high = stretch
    if low is not None and (share < fraction(low[0]) or (share == fraction(low[0]) and not low[1])):
        return False
    return high is None or share < fraction(high[0]) or (share == fraction(high[0]) and high[1])


def shares_of(stretch):
    """Shares that belong to (low, high): its ends, if they do, and others."""
    low, high = stretch
    found = [fraction(end[0]) for end in stretch if end is not None and end[1]]
    if low is None and high is None:
        return [Fraction(-1000), Fraction(0), Fraction(1, 3), Fraction(1), Fraction(1000)]
    if low is None or high is None:
        end, sign = (fraction(high[0]), -1) if low is None else (fraction(low[0]), 1)
        return found + [end + sign * far for far in (LITTLE, 1, 1000)]
    return found + [plain.between((fraction(low[0]),), (fraction(high[0]),), share)[0] for share in (LITTLE, Fraction(1, 2), 1 - LITTLE)
                    if low[0] != high[0]]


def shares_outside(stretches):
    """Shares that belong to none of these, close to them."""
    ends_of_all = [fraction(end[0]) for stretch in stretches for end in stretch if end is not None]
    near = {share for end in ends_of_all for share in (end - LITTLE, end, end + LITTLE)}
    return sorted(share for share in near if not any(is_within(stretch, share) for stretch in stretches))


def routes(steps, at=0):
    """All rows of steps that may be done one behind another."""
    if at == len(steps):
        yield ()
    elif steps[at][0] == "skip":
        yield from routes(steps, at + 1)
        yield from routes(steps, at + 1 + steps[at][1])
    else:
        for rest in routes(steps, at + 1):
            yield (steps[at], *rest)


class Backwards:
    """Finds starts in a land from which a walk ends at a place, by going back from there step by step."""

    def __init__(self, marks, steps, corners):
        self.marks, self.steps, self.corners = marks, steps, corners
        self.chart = plain.chart_of(marks)
        self.routes = sorted(set(routes(steps)))
        self.told = {}

    def reached(self, route):
        """Places at which walks by a row of steps end, on the pair of its last one."""
        if route not in self.told:
            told = ends(self.chart, Script(text_of(route)), Land(self.corners))
            self.told[route] = [(self.marks[one], self.marks[other], share) for one, other, *stretch in told
                                for share in shares_of(stretch)]
        return [plain.between(one, other, share) for one, other, share in self.told[route]]

    def ahead(self, route, goal):
        """Places on the pair of the step ahead from which the last one perhaps leads to goal."""
        mark, before = self.marks[route[-1][1]], [self.marks[name] for name in route[-2][3:]]
        found = [goal]
        if mark != goal:
            found.append(plain.crossing((mark, goal), before))
        if route[-1][1] in route[-1][3:] + route[-2][3:]:
            # Many places lead to one here.
            found.extend(self.reached(route[:-1]))
            found.append(plain.crossing(before, [self.marks[name] for name in route[-1][3:]]))
        return [at for at in found if at is not None and plain.height(*before, at) == 0]

    def first(self, step, goal):
        """Places of the land from which the first step perhaps leads to goal."""
        corners = [tuple(map(Fraction, corner)) for corner in self.corners]
        mark, edges = self.marks[step[1]], list(zip(corners, corners[1:] + corners[:1]))
        lines = [(mark, goal)] if mark != goal else []
        if step[1] in step[3:]:
            lines.append([self.marks[name] for name in step[3:]])
        on = [goal] + [at for line in lines for at in [plain.crossing(edge, line) for edge in edges] + [mark, *line] if at is not None]
        on += [plain.between(one, other, Fraction(1, 2)) for one, other in itertools.combinations(sorted(set(on)), 2)]
        return [at for at in on + corners if plain.in_land(self.corners, at)]

    def back(self, route, goal):
        if len(route) == 1:
            yield from self.first(route[0], goal)
        else:
            for at in sorted(set(self.ahead(route, goal))):
                if plain.step_end(self.marks, route[-1], at) == goal:
                    yield from self.back(route[:-1], at)

    def start(self, pair, share):
        """A start from which a walk ends at this share of the pair of its last step, or None."""
        goal = plain.between(self.marks[pair[0]], self.marks[pair[1]], share)
        for route in self.routes:
            if pair_of(self.marks, route[-1]) == pair:
                for at in self.back(route, goal):
                    if end_of(self.marks, self.steps, at) == (pair, share):
                        return at
        return None


def starts_of_failures(marks, steps, corners, line):
    """Starts from which walks perhaps fail at this line: those that come to special places ahead of it."""
    ahead = [step if step[0] != "skip" else ("skip", min(step[1], line - 2 - number), *step[2:]) for number, step in enumerate(steps[:line - 1])]
    while ahead and ahead[-1][0] == "skip":
        ahead.pop()
    if not ahead:
        return
    if any(step[0] == "skip" and step[1] > len(ahead) - 1 - number for number, step in enumerate(ahead)):
        ahead = [step if step[0] != "skip" else ("skip", min(step[1], len(ahead) - 1 - number), *step[2:]) for number, step in enumerate(ahead)]
    back = Backwards(marks, tuple(ahead), corners)
    for one, other, *stretch in ends(plain.chart_of(marks), Script(text_of(ahead)), Land(corners)):
        way = marks[one], marks[other]
        special = [plain.on_way(*way, at) for at in [*marks.values(), *plain.crossings([way, *plain.lines_of(marks)])] if plain.height(*way, at) == 0]
        special = sorted(set(special))
        special += [(low + high) / 2 for low, high in zip(special, special[1:])] + [special[0] - 1, special[-1] + 1]
        for share in shares_of(stretch) + [share for share in special if is_within(stretch, share)]:
            start = back.start((one, other), share)
            if start is not None:
                yield start


def seeds(many):
    return [random.Random(number) for number in range(many)]
