"""Whys: a row for each expression gone into, told, and judged one by one."""

from leafround.answers import is_answer, is_endless, is_fault
from leafround.errors import NoWhy
from leafround.forms import is_like, is_name, is_number, is_rising
from leafround.going import FORMS, Ended, Going, spots_of
from leafround.meaning import DEEPEST, STEPS, Walk


def whys(cell, tree, world):
    """A row of each expression gone into: (cell, number, given, parts, answer), as they end."""
    walk = Walk(cell, tree, world, STEPS)
    answer = walk.answer()
    if is_endless(answer):
        raise NoWhy(answer[1])
    return [(spot.cell, spot.number, in_order(given), parts, told) for spot, given, parts, told in walk.trace]


def in_order(given):
    return tuple(sorted(given.items()))


def wrong_why(cell, tree, world, rows):
    """The number of the first row that isn't so, how many there are where all fail, or None."""
    judge = Judge(cell, tree, world)
    for row in rows:
        if not judge.lets_by(row):
            return len(judge.passed)
    return None if is_whole(cell, rows, judge.above) else len(rows)


def is_whole(cell, rows, above):
    """Whether rows that are right by themselves are those of the cell's tree; above has each part's row."""
    if not 1 <= len(rows) <= STEPS or rows[-1][:3] != (cell, 0, ()):
        return False
    depths = {len(rows) - 1: 1}
    # Parts come ahead, so that each row is looked at behind the one that it is a part of.
    for number in range(len(rows) - 2, -1, -1):
        if number not in above:
            return False
        depths[number] = depths[above[number]] + 1
        if depths[number] > DEEPEST:
            return False
    return True


def is_given(thing):
    """Whether a thing is a tuple of (text, answer), texts rising, no answer a fault."""
    if not isinstance(thing, tuple):
        return False
    for pair in thing:
        if not isinstance(pair, tuple) or len(pair) != 2:
            return False
        if not isinstance(pair[0], str) or not is_answer(pair[1]):
            return False
    return is_rising([name for name, _ in thing])


class Unlike(Exception):
    """A row hasn't the parts that it has to have."""

    def __init__(self):
        super().__init__("a row hasn't the parts that it has to have")


class Judge(Going):
    """Looks at rows one by one, each with those let by ahead of it."""

    def __init__(self, cell, tree, world):
        super().__init__(cell, tree, world)
        # The rows let by, and for each that is a part the number of the row that it is a part of.
        self.passed = []
        self.above = {}
        self._trees = {lead[1]: lead[3] for lead in list(world.values()) if lead[0] == "body"}
        self._spots = {cell: self.spots}
        self._left = []

    def lets_by(self, row):
        """Whether a row is right by its kinds, its parts and their answers."""
        if not self._has_form(row):
            return False
        cell, number, given, parts, answer = row
        self._left = list(parts)
        try:
            due = self._due(self._spots_of(cell)[number], dict(given))
        except Unlike:
            return False
        if self._left or not is_like(answer, due):
            return False
        for part in parts:
            self.above[part] = len(self.passed)
        self.passed.append(row)
        return True

    def go(self, spot, given):
        """The answer of the next part, which has to be of this spot, where these names are given."""
        if not self._left:
            raise Unlike()
        part = self.passed[self._left.pop(0)]
        if part[:3] != (spot.cell, spot.number, in_order(given)):
            raise Unlike()
        if is_fault(part[4]):
            raise Ended(part[4])
        return part[4]

    def _has_form(self, row):
        if not isinstance(row, tuple) or len(row) != 5:
            return False
        cell, number, given, parts, _ = row
        if not is_name(cell) or not is_number(number) or number >= len(self._spots_of(cell)):
            return False
        return is_given(given) and self._are_parts(parts)

    def _are_parts(self, thing):
        """Whether a thing is a tuple of numbers of rows let by that are no parts yet."""
        if not isinstance(thing, tuple) or not all([is_number(part) for part in thing]):
            return False
        if not all([part < len(self.passed) and part not in self.above for part in thing]):
            return False
        return len(set(thing)) == len(thing)

    def _spots_of(self, cell):
        """The spots of the tree of a cell, none of a cell that isn't gone into."""
        if cell not in self._spots:
            self._spots[cell] = spots_of(cell, self._trees[cell]) if cell in self._trees else []
        return self._spots[cell]

    def _due(self, spot, given):
        """The answer that a row of this spot has to have."""
        form = FORMS[spot.tree[0]]
        try:
            return form(self, spot, given)
        except Ended as ended:
            return ended.fault
