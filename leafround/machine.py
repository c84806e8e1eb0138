"""A machine that tells a tree's meaning by rows, without a call within a call.

A row is a tuple: its word, the expression's at, and what it needs besides; a number of rows by which
it leads on is counted from the row behind it.
"""

from leafround.answers import bounded, fault_at, is_fault, made, operation_of
from leafround.going import lead_of, read, refusal, spots_of
from leafround.meaning import DEEPEST, STEPS


def rows_of(tree):
    """The rows of a tree."""
    spots = spots_of(None, tree)
    depths = [1] * len(spots)
    for spot in spots:
        for part in spot.parts:
            depths[part.number] = depths[spot.number] + 1
    # From the last on, so that the rows of what stands in an expression are there ahead of its own.
    rows = [[] for _ in spots]
    for spot in spots[::-1]:
        inner = [rows[part.number] for part in spot.parts]
        depth = depths[spot.number]
        rows[spot.number] = [("into", spot.tree[1], depth), *own_rows(spot.tree, inner, depth)]
    return rows[0]


def own_rows(tree, inner, depth):
    """The rows of an expression, made of those of what stands in it."""
    kind, at = tree[:2]
    if kind in ("number", "truth", "words"):
        return [("put", at, bounded((kind, tree[2])))]
    if kind == "name":
        return [("name", at, tree[2])]
    if kind == "call":
        many = len(inner)
        return [("asks", at, tree[2], many), *joined(inner), ("call", at, tree[2], many, depth)]
    if kind == "if":
        ask, yes, other = inner
        return [*ask, ("unless", at, len(yes) + 1), *yes, ("leap", at, len(other)), *other]
    if kind == "and" or kind == "or":
        one, other = inner
        return [*one, ("tells", at, kind == "or", len(other) + 1), *other, ("truth", at)]
    if kind == "let":
        one, two = inner
        return [*one, ("give", at, tree[2]), *two, ("back", at)]
    if kind == "each":
        return each_rows(at, tree[3], inner)
    return [*joined(inner), ("make", at, operation_of(tree), len(inner))]


def joined(inner):
    return [row for rows in inner for row in rows]


def each_rows(at, name, inner):
    body, source = inner[:2]
    loop = [*body, ("keep", at)]
    if len(inner) == 3:
        loop = [*inner[2], ("unless", at, len(loop)), *loop]
    ahead = [*source, ("items", at), ("each", at, name, len(loop) + 1)]
    return [*ahead, *loop, ("leap", at, -len(loop) - 2), ("told", at)]


def run(cell, rows, world, *, steps=STEPS):
    """The answer of a tree's rows, how many expressions were gone into, and what was asked."""
    machine = Machine(cell, rows, world, steps)
    while machine.goes_on():
        row = machine.next_row()
        act = ACTS[row[0]]
        act(machine, row)
    return machine.answers[-1], machine.steps, list(machine.reads.items())


class Machine:
    """Where a run stands: its answers so far, what is given, what it goes back to."""

    def __init__(self, cell, rows, world, bound):
        self.cell = cell
        self.world = world
        self.bound = bound
        self.steps = 0
        self.reads = {}
        self.answers = []
        self.given = {}
        # What was given around each let and each that hasn't ended.
        self.outer = []
        # Of each that hasn't ended: its items, how many were taken, what is kept.
        self.loops = []
        self.depth = 0
        self._program = rows
        self._at = 0
        self._calls = []
        self._bodies = {}
        self._ended = False

    def goes_on(self):
        """Whether a row is left; behind a body's last one it is that behind the call."""
        if self._ended:
            return False
        while self._at == len(self._program) and self._calls:
            self.cell, self._program, self._at, self.given, self.depth = self._calls.pop()
        return self._at < len(self._program)

    def next_row(self):
        self._at += 1
        return self._program[self._at - 1]

    def leap(self, rows):
        self._at += rows

    def asked(self, name):
        self.reads[name] = lead_of(self.world, name)
        return self.reads[name]

    def tell(self, told, at):
        """Put an answer, or end by a fault or a fault's word."""
        answer = fault_at(told, self.cell, at)
        self._ended = is_fault(answer)
        self.answers.append(answer)

    def taken(self, many):
        """The last so many answers, which are taken away."""
        ahead = len(self.answers) - many
        answers = self.answers[ahead:]
        del self.answers[ahead:]
        return answers

    def into_body(self, name, depth):
        """Go on with the rows of a body, its arguments the last answers."""
        _, cell, params, tree = self.world[name]
        if name not in self._bodies:
            self._bodies[name] = rows_of(tree)
        self._calls.append((self.cell, self._program, self._at, self.given, self.depth))
        self.given = dict(zip(params, self.taken(len(params))))
        self.cell, self._program, self._at = cell, self._bodies[name], 0
        self.depth += depth


def act_into(machine, row):
    _, at, depth = row
    if machine.steps >= machine.bound:
        machine.tell("steps", at)
    elif machine.depth + depth > DEEPEST:
        machine.tell("deep", at)
    else:
        machine.steps += 1


def act_put(machine, row):
    _, at, told = row
    machine.tell(told, at)


def act_name(machine, row):
    _, at, name = row
    given = machine.given
    machine.tell(given[name] if name in given else read(machine.asked(name)), at)


def act_asks(machine, row):
    _, at, name, many = row
    word = "kind" if name in machine.given else refusal(machine.asked(name), many)
    if word is not None:
        machine.tell(word, at)


def act_call(machine, row):
    _, _, name, _, depth = row
    machine.into_body(name, depth)


def act_make(machine, row):
    _, at, word, many = row
    machine.tell(made(word, machine.taken(many)), at)


def act_unless(machine, row):
    """Leap where the last answer is no, which is taken away."""
    _, at, rows = row
    kind, truth = machine.answers.pop()
    if kind != "truth":
        machine.tell("kind", at)
    elif not truth:
        machine.leap(rows)


def act_tells(machine, row):
    """Leap where the last answer tells the whole; else it is taken away."""
    _, at, telling, rows = row
    kind, truth = machine.answers[-1]
    if kind != "truth":
        machine.tell("kind", at)
    elif truth == telling:
        machine.leap(rows)
    else:
        machine.answers.pop()


def act_truth(machine, row):
    if machine.answers[-1][0] != "truth":
        machine.tell("kind", row[1])


def act_leap(machine, row):
    machine.leap(row[2])


def act_give(machine, row):
    machine.outer.append(machine.given)
    machine.given = {**machine.given, row[2]: machine.answers.pop()}


def act_back(machine, row):
    machine.given = machine.outer.pop()


def act_items(machine, row):
    kind, items = machine.answers.pop()
    if kind != "list":
        machine.tell("kind", row[1])
    else:
        machine.outer.append(machine.given)
        machine.loops.append((items, 0, []))


def act_each(machine, row):
    """Give the next item, or leap where none is left."""
    _, _, name, rows = row
    items, many, kept = machine.loops.pop()
    machine.loops.append((items, many + 1, kept))
    if many == len(items):
        machine.leap(rows)
    else:
        machine.given = {**machine.outer[-1], name: items[many]}


def act_keep(machine, row):
    machine.loops[-1][2].append(machine.answers.pop())


def act_told(machine, row):
    machine.given = machine.outer.pop()
    machine.tell(made("list", machine.loops.pop()[2]), row[1])


ACTS = {
    "into": act_into, "put": act_put, "name": act_name, "asks": act_asks, "call": act_call, "make": act_make,
    "unless": act_unless, "tells": act_tells, "truth": act_truth, "leap": act_leap, "give": act_give,
    "back": act_back, "items": act_items, "each": act_each, "keep": act_keep, "told": act_told,
}
