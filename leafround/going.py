"""What each kind of expression means, whoever goes into those that stand in it."""

from leafround.answers import bounded, fault_at, is_fault, made, operation_of
from leafround.trees import parts_of


class Ended(Exception):
    """A fault has arisen, and ends all."""

    def __init__(self, fault):
        super().__init__("a fault has arisen")
        self.fault = fault


class Spot:
    """An expression of a cell's tree, with its number and the spots of what stands in it."""

    def __init__(self, cell, number, tree):
        self.cell = cell
        self.number = number
        self.tree = tree
        self.parts = []


def spots_of(cell, tree):
    """The spots of a tree, each ahead of what stands in it, these in the order of the text."""
    spots = []
    waiting = [(tree, None)]
    while waiting:
        part, above = waiting.pop()
        spot = Spot(cell, len(spots), part)
        spots.append(spot)
        if above is not None:
            above.parts.append(spot)
        waiting.extend([(inner, spot) for inner in parts_of(part)[::-1]])
    return spots


def lead_of(world, name):
    """What a name leads to."""
    return world.get(name, ("nobody",))


def read(lead):
    """What a name tells that leads there: an answer, a fault or a fault's word."""
    if lead[0] == "body":
        return "kind"
    if lead[0] != "answer":
        return lead[0]
    _, cell, answer = lead
    return ("fault", "from", cell) if is_fault(answer) else answer


def refusal(lead, many):
    """The word of the fault of a call with so many arguments whose name leads there, or None."""
    if lead[0] == "answer":
        return "kind"
    if lead[0] != "body":
        return lead[0]
    return None if len(lead[2]) == many else "kind"


def settled(spot, told):
    """The answer that is told; a fault, or a fault's word of this spot, ends all."""
    answer = fault_at(told, spot.cell, spot.tree[1])
    if is_fault(answer):
        raise Ended(answer)
    return answer


def worth_of(spot, answer, kind):
    """The worth of an answer, which has to be of this kind."""
    if answer[0] != kind:
        raise Ended(fault_at("kind", spot.cell, spot.tree[1]))
    return answer[1]


# Each of these tells what an expression means where these names are given; going.go goes into another one.

def of_plain(going, spot, given):
    return settled(spot, bounded((spot.tree[0], spot.tree[2])))


def of_operation(going, spot, given):
    operands = []
    for part in spot.parts:
        operands.append(going.go(part, given))
    return settled(spot, made(operation_of(spot.tree), operands))


def of_name(going, spot, given):
    name = spot.tree[2]
    if name in given:
        return given[name]
    return settled(spot, read(going.asked(name)))


def of_call(going, spot, given):
    name = spot.tree[2]
    word = "kind" if name in given else refusal(going.asked(name), len(spot.parts))
    if word is not None:
        settled(spot, word)
    params, body = going.body(name)
    arguments = {}
    for param, part in zip(params, spot.parts):
        arguments[param] = going.go(part, given)
    return going.go(body, arguments)


def of_if(going, spot, given):
    ask, yes, other = spot.parts
    truth = worth_of(spot, going.go(ask, given), "truth")
    return going.go(yes if truth else other, given)


def of_and_or(going, spot, given):
    one, other = spot.parts
    telling = spot.tree[0] == "or"
    truth = worth_of(spot, going.go(one, given), "truth")
    if truth != telling:
        truth = worth_of(spot, going.go(other, given), "truth")
    return ("truth", truth)


def of_let(going, spot, given):
    one, two = spot.parts
    answer = going.go(one, given)
    return going.go(two, {**given, spot.tree[2]: answer})


def of_each(going, spot, given):
    body, source = spot.parts[:2]
    told = []
    for item in worth_of(spot, going.go(source, given), "list"):
        within = {**given, spot.tree[3]: item}
        if of_test(going, spot, within):
            told.append(going.go(body, within))
    return settled(spot, made("list", told))


def of_test(going, spot, given):
    """Whether an item's body is gone into."""
    if len(spot.parts) == 2:
        return True
    return worth_of(spot, going.go(spot.parts[2], given), "truth")


FORMS = {
    "number": of_plain, "truth": of_plain, "words": of_plain, "name": of_name, "call": of_call,
    "own": of_operation, "list": of_operation, "pick": of_operation, "minus": of_operation,
    "sign": of_operation, "not": of_operation, "and": of_and_or, "or": of_and_or,
    "if": of_if, "let": of_let, "each": of_each,
}


class Going:
    """What is asked of a world while a tree is gone through; those beneath it tell how by their go."""

    def __init__(self, cell, tree, world):
        self.spots = spots_of(cell, tree)
        # What each name led to that was asked, as first asked.
        self.reads = {}
        self._world = world
        self._bodies = {}

    def asked(self, name):
        """What a name leads to that nothing in the tree gives."""
        self.reads[name] = lead_of(self._world, name)
        return self.reads[name]

    def body(self, name):
        """The names of the arguments and the first spot of what a name leads to."""
        _, cell, params, tree = self._world[name]
        if name not in self._bodies:
            self._bodies[name] = spots_of(cell, tree)
        return params, self._bodies[name][0]
