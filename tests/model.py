"""A walker by hand: with Fractions, and all that it tells reckoned anew each time from what was done."""

from fractions import Fraction

from tests import plain


class Refused(Exception):
    """What a walker refuses: the name of its error, and the value of it."""

    def __init__(self, error, value):
        super().__init__(error, value)
        self.error, self.value = error, value


class Model:
    """deeds: (line of a journal, place) of those that stand; undone: of those that were taken back."""

    def __init__(self, marks, first):
        self.marks, self.first = marks, tuple(map(Fraction, first))
        self.deeds, self.undone = [], []
        self.seen = {}

    def rounds(self, start, goal):
        """What is seen on a straight way, remembered."""
        if (start, goal) not in self.seen:
            self.seen[start, goal] = plain.seen_on(self.marks, start, goal)
        return self.seen[start, goal]

    def places(self):
        return [self.first, *[at for _, at in self.deeds]]

    def here(self):
        return self.places()[-1]

    def log(self):
        rounds = [plain.about(self.marks, self.first)]
        for start, goal in zip(self.places(), self.places()[1:]):
            if start != goal:
                rounds.extend(self.rounds(start, goal))
        return tuple(told for told, ahead in zip(rounds, [None, *rounds]) if told != ahead)

    def journal(self):
        first = plain.point(self.first).text
        return "\n".join([plain.text_of(self.marks), f"at {first}", *[line for line, _ in self.deeds]])

    def do(self, line, goal):
        standing = {at: name for name, at in self.marks.items()}
        if goal in standing:
            raise Refused("AtMark", standing[goal])
        over = plain.marks_on_way(self.marks, self.here(), goal) if goal != self.here() else []
        if over:
            raise Refused("OverMark", over[0])
        before = len(self.log())
        self.deeds, self.undone = [*self.deeds, (line, goal)], []
        return self.log()[before:]

    def go(self, goal):
        goal = tuple(map(Fraction, goal))
        if goal == self.here():
            raise Refused("BadPoint", plain.point(goal))
        return self.do("go " + plain.point(goal).text, goal)

    def step(self, line):
        """A line that has the form of a step."""
        step = tuple(line.split(" "))
        for name in (step[1], *step[3:]):
            if name not in self.marks:
                raise Refused("NoMark", name)
        end = plain.step_end(self.marks, step, self.here())
        if end in ("at", "ever"):
            raise Refused("Lost", end)
        return self.do(line, end)

    def undo(self):
        if not self.deeds:
            raise Refused("NothingToUndo", None)
        self.undone, self.deeds = [*self.undone, self.deeds[-1]], self.deeds[:-1]

    def redo(self):
        if not self.undone:
            raise Refused("NothingToRedo", None)
        self.deeds, self.undone = [*self.deeds, self.undone[-1]], self.undone[:-1]

    def state(self):
        return self.deeds, self.undone

    def restore(self, state):
        self.deeds, self.undone = state
