"""The meaning of a tree: its answer, its steps and what it read."""

from leafround.answers import fault_at, is_fault
from leafround.going import FORMS, Ended, Going

STEPS = 1000
DEEPEST = 90


def meaning(cell, tree, world, *, steps=STEPS):
    """The answer of a cell's tree, how many expressions were gone into, and what was asked."""
    walk = Walk(cell, tree, world, steps)
    answer = walk.answer()
    return answer, walk.steps, list(walk.reads.items())


class Walk(Going):
    """Goes into a tree, step by step."""

    def __init__(self, cell, tree, world, bound):
        super().__init__(cell, tree, world)
        self.steps = 0
        # Of each expression that has ended: (spot, given, numbers of what it went into, answer).
        self.trace = []
        self._bound = bound
        self._depth = 0
        self._within = []

    def answer(self):
        try:
            return self.go(self.spots[0], {})
        except Ended as ended:
            return ended.fault

    def go(self, spot, given):
        """The answer of an expression where these names are given."""
        word = self._stop()
        if word is not None:
            raise Ended(fault_at(word, spot.cell, spot.tree[1]))
        self.steps += 1
        self._depth += 1
        around, self._within = self._within, []
        form = FORMS[spot.tree[0]]
        try:
            answer = form(self, spot, given)
        except Ended as ended:
            answer = ended.fault
        around.append(len(self.trace))
        self.trace.append((spot, given, tuple(self._within), answer))
        self._within = around
        self._depth -= 1
        if is_fault(answer):
            raise Ended(answer)
        return answer

    def _stop(self):
        """The word of the fault where no further expression can be gone into here."""
        if self.steps >= self._bound:
            return "steps"
        return "deep" if self._depth >= DEEPEST else None
