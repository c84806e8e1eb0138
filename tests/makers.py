"""What several tests need: deeds made by hand or by chance, and the plain rules, written out anew.

Nothing here uses the program, so that each test compares it with the document's own words.
Chance is a seeded one: each run sees the same.
"""

import itertools


def deed(hand, k, stamp, seen, *act):
    return (hand, k, stamp, tuple(seen), tuple(act))


def name(one):
    return one[:2]


def mark(one):
    return (one[2], one[0])


# A small history of two hands: a makes a cell and writes into it, b writes, strikes and places.
A0 = deed("a", 0, 0, [], "cell", None, None)
A1 = deed("a", 1, 1, [("a", 1)], "write", ("a", 0), None, "one")
B0 = deed("b", 0, 2, [("a", 2)], "cell", ("a", 0), None)
B1 = deed("b", 1, 3, [("a", 2), ("b", 1)], "write", ("b", 0), None, "two!")
B2 = deed("b", 2, 4, [("a", 2), ("b", 2)], "strike", (("a", 1, 0), ("a", 1, 2)))
A2 = deed("a", 2, 2, [("a", 2)], "place", ("a", 0), None, ("a", 0))
B3 = deed("b", 3, 5, [("a", 3), ("b", 3)], "off", ("a", 2))
SMALL = [A0, A1, B0, B1, B2, A2, B3]


# The plain rules.

def lacked(one, taken):
    names = {name(other) for other in taken}
    for hand, many in one[3]:
        for k in itertools.count():
            if k == many:
                break
            if (hand, k) not in names:
                return (hand, k)
    return None


def wrong_word(one, taken):
    own = dict(one[3])
    seen = [other for other in taken if other[1] < own.get(other[0], 0)]
    by_name = {name(other): other for other in seen}
    for other in seen:
        if any(own.get(hand, 0) < many for hand, many in other[3]):
            return "seen"
    if one[2] != max([other[2] + 1 for other in seen], default=0):
        return "stamp"
    act = one[4]

    def kind(what):
        return by_name[what][4][0] if what in by_name else None

    def is_cell(what):
        return kind(what) == "cell"

    def is_stand(what):
        return what is None or kind(what) in ("cell", "place")

    def is_sign(what):
        return what is None or kind(what[:2]) == "write" and what[2] < len(by_name[what[:2]][4][3])

    there = {
        "cell": lambda: (act[1] is None or is_cell(act[1])) and is_stand(act[2]),
        "place": lambda: is_cell(act[1]) and (act[2] is None or is_cell(act[2])) and is_stand(act[3]),
        "write": lambda: is_cell(act[1]) and is_sign(act[2]),
        "strike": lambda: all(is_sign(sign) for sign in act[1]),
        "drop": lambda: is_cell(act[1]),
        "off": lambda: kind(act[1]) not in (None, "off", "on"),
        "on": lambda: kind(act[1]) not in (None, "off", "on"),
    }
    if not there[act[0]]():
        return "names"
    if act[0] in ("cell", "place") and act[-1] is not None and by_name[act[-1]][4][-2] != act[-2]:
        return "row"
    if act[0] == "write" and act[2] is not None and by_name[act[2][:2]][4][1] != act[1]:
        return "row"
    if act[0] == "strike" and len({by_name[sign[:2]][4][1] for sign in act[1]}) > 1:
        return "row"
    return None


class PlainHeard:
    """Point 6, word by word, with lists alone."""

    def __init__(self, hand=None):
        self.hand = hand
        self.taken = []
        self.waiting = []

    def judge(self, one):
        word = wrong_word(one, self.taken)
        if word is not None:
            return (name(one), "wrong", word)
        self.taken.append(one)
        return (name(one), "new")

    def look(self, one):
        for there in self.taken + self.waiting:
            if name(there) == name(one):
                return (name(one), "had") if there == one else (name(one), "pair", there)
        if one[0] == self.hand:
            return (name(one), "own")
        what = lacked(one, self.taken)
        if what is not None:
            self.waiting.append(one)
            return (name(one), "waits", what)
        return self.judge(one)

    def hear(self, deeds):
        rows = [self.look(one) for one in deeds]
        while True:
            ready = [one for one in self.waiting if lacked(one, self.taken) is None]
            if not ready:
                return rows
            least = min(ready, key=mark)
            self.waiting.remove(least)
            rows.append(self.judge(least))

    def seen(self):
        hands = sorted({one[0] for one in self.taken})
        return tuple((hand, sum(one[0] == hand for one in self.taken)) for hand in hands)

    def tell(self, act):
        k = sum(one[0] == self.hand for one in self.taken)
        stamp = max([one[2] + 1 for one in self.taken], default=0)
        one = (self.hand, k, stamp, self.seen(), act)
        self.taken.append(one)
        return one


def row_of(puts):
    """By rising marks each put goes right behind its own: all that stands there is less late."""
    row = []
    for _, names, behind in sorted(puts):
        at = 0 if behind is None else row.index(behind) + 1
        row[at:at] = names
    return row


def stands_so(puts, row, one):
    """RULE of point 7 for one name, word by word."""
    marks, own = {}, {}
    for its_mark, names, behind in puts:
        for what in names:
            marks[what], own[what] = its_mark, behind
            behind = what
    at = row.index(one)
    start = -1 if own[one] is None else row.index(own[one])
    return start < at and all(marks[between] > marks[one] for between in row[start + 1:at])


def off_of(deeds):
    last = {}
    for one in sorted(deeds, key=mark):
        if one[4][0] in ("off", "on"):
            last[one[4][1]] = one[4][0]
    return {what for what in last if last[what] == "off"}


def placed(deeds):
    """What is told of each place, and for each cell the (stand, parent) where it stands."""
    off = off_of(deeds)
    told, where = [], {}
    for one in sorted(deeds, key=mark):
        if one[4][0] not in ("cell", "place"):
            continue
        parent = one[4][-2]
        cell = name(one) if one[4][0] == "cell" else one[4][1]
        if one[4][0] == "place" and name(one) in off:
            told.append((name(one), "off", None))
            continue
        way = []
        while parent is not None:
            way.append(parent)
            if parent == cell:
                break
            parent = where[parent][1]
        if cell in way:
            told.append((name(one), "passed", tuple(way)))
        else:
            told.append((name(one), "done", tuple(way)))
            where[cell] = (name(one), one[4][-2])
    return told, where


def stand_row(deeds, parent):
    return row_of([(mark(one), (name(one),), one[4][-1]) for one in deeds
                   if one[4][0] in ("cell", "place") and one[4][-2] == parent])


def sign_row(deeds, cell):
    return row_of([(mark(one), tuple(name(one) + (i,) for i in range(len(one[4][3]))), one[4][2])
                   for one in deeds if one[4][0] == "write" and one[4][1] == cell])


def notebook_of(deeds):
    off = off_of(deeds)
    where = placed(deeds)[1]
    by_name = {name(one): one for one in deeds}
    live = [one for one in deeds if name(one) not in off]
    dropped = {one[4][1] for one in live if one[4][0] == "drop"}
    struck = {sign for one in live if one[4][0] == "strike" for sign in one[4][1]}

    def shown(sign):
        return sign not in struck and sign[:2] not in off

    def beneath(parent, depth):
        for stand in stand_row(deeds, parent):
            act = by_name[stand][4]
            cell = stand if act[0] == "cell" else act[1]
            if where[cell][0] != stand or cell in dropped or cell in off:
                continue
            signs = [sign for sign in sign_row(deeds, cell) if shown(sign)]
            yield (cell, depth, tuple((sign, by_name[sign[:2]][4][3][sign[2]]) for sign in signs))
            yield from beneath(cell, depth + 1)

    return list(beneath(None, 0))


# Deeds by chance.

def by_chance(chance, hands, many):
    """A whole list of right deeds of these hands, each told by what its house knew then."""
    known = {hand: PlainHeard(hand) for hand in hands}
    told = []
    while len(told) < many:
        hand = chance.choice(hands)
        house = known[hand]
        if chance.random() < 0.3:
            other = known[chance.choice(hands)]
            news = [one for one in other.taken[:chance.randint(0, len(other.taken))] if one not in house.taken]
            house.taken += news
            continue
        act = act_by_chance(chance, house.taken)
        told.append(house.tell(act))
    return told


def act_by_chance(chance, deeds):
    cells = [name(one) for one in deeds if one[4][0] == "cell"]
    stands = {}
    for one in deeds:
        if one[4][0] in ("cell", "place"):
            stands.setdefault(one[4][-2], []).append(name(one))
    writes = [one for one in deeds if one[4][0] == "write"]
    others = [one for one in deeds if one[4][0] not in ("off", "on")]
    kind = chance.choice(["cell", "place", "place", "write", "write", "write", "strike", "drop", "turn", "turn"])
    if kind == "cell" or not cells:
        parent = chance.choice([None] + cells)
        return ("cell", parent, chance.choice([None] + stands.get(parent, [])))
    cell = chance.choice(cells)
    if kind == "place":
        parent = chance.choice([None] + cells)
        return ("place", cell, parent, chance.choice([None] + stands.get(parent, [])))
    signs = [name(one) + (i,) for one in writes if one[4][1] == cell for i in range(len(one[4][3]))]
    if kind == "strike" and signs:
        return ("strike", tuple(sorted(chance.sample(signs, chance.randint(1, min(3, len(signs)))))))
    if kind == "drop" and chance.random() < 0.4:
        return ("drop", cell)
    if kind == "turn":
        named = chance.choice([one for one in others if one[4][0] in ("place", "drop")] or others)
        if chance.random() < 0.4:
            named = chance.choice(others)
        return (chance.choice(["off", "off", "on"]), name(named))
    text = "".join(chance.choice("abc '#~") for _ in range(chance.randint(1, 5)))
    return ("write", cell, chance.choice([None] + signs), text)


def in_an_order(chance, deeds):
    """The same deeds in another order, each behind all that it has seen."""
    left, there, told = list(deeds), set(), []
    while left:
        ready = [one for one in left
                 if all((hand, k) in there for hand, many in one[3] for k in range(many))]
        one = chance.choice(ready)
        left.remove(one)
        there.add(name(one))
        told.append(one)
    return told


def shuffled(chance, things):
    things = list(things)
    chance.shuffle(things)
    return things


# Wrong things of all kinds.

class Other:
    pass


ODD = [
    None, True, False, 0, 1, -1, 10 ** 70, "", "a", "a 0 0 - cell - -", "\n", "\u00e9", "\ud800", (), [], ((),),
    [[]], (None,), ("a", 0), ["a", 0], ("a", 0, 0), ("cell", None, None), (("a", 0), ("b", 1)),
    ("a", 0, 0, (), ()), ("a", 0, 0, (), "cell"), ("a", 0, 0, (), ("cell",)), ("a", 0, 0, (), (("cell",), None, None)),
    ("a", 0, 0, (), ([], None, None)), ("a", 0, 0, (), (None, None, None)), ["a", 0, 0, (), ("cell", None, None)],
    ("a", 0, 0, [], ("cell", None, None)), ("a", 0, 0, (), ["cell", None, None]),
    ("a", 0, 0, (), ("cell", None, None), None), ("a", 0, 0, ("cell", None, None)),
    (((((((("a",),),),),),),),), [[[[[[[["a"]]]]]]]],
]
