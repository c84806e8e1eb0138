"""Points 28 to 36 and 41 written out anew: a house by lists alone, and a judge that judges nothing but pages.

What the program's own earlier stages are used for: texts told as trees (plain.py), records (records.py).
"""

import itertools

from makers import PlainHeard, mark, name, notebook_of, off_of, placed
from plain import PlainKeeper, PlainSheet
from plainpage import plain_page


def row_of_words(deed):
    """Point 10, by hand."""
    def called(what):
        return "-" if what is None else ":".join(map(str, what))
    hand, k, stamp, seen, act = deed
    if act[0] == "write":
        told = " ".join(["write", called(act[1]), called(act[2]), act[3]])
    else:
        told = " ".join([act[0]] + [called(what) for what in (act[1] if act[0] == "strike" else act[1:])])
    return "%s %d %d %s %s" % (hand, k, stamp, ",".join("%s:%d" % pair for pair in seen) or "-", told)


def in_it(deed, moment):
    return any(deed[0] == hand and deed[1] < many for hand, many in moment)


def joined_of(*tables):
    hands = sorted({hand for table in tables for hand, _ in table})
    return tuple((hand, max(many for table in tables for other, many in table if other == hand)) for hand in hands)


def sheet_at(deeds):
    return [(cell, "".join(sign for _, sign in signs)) for cell, _, signs in notebook_of(deeds)]


def page_at(deeds, width, answers=None):
    answers = dict(PlainSheet(sheet_at(deeds)).fresh() if answers is None else answers)
    texts = dict(sheet_at(deeds))
    return plain_page([(cell, depth, texts[cell], answers.get(cell)) for cell, depth, _ in notebook_of(deeds)], width)[0]


def stands_at(deeds):
    """For each shown cell (parent, place, text)."""
    where, texts = placed(deeds)[1], dict(sheet_at(deeds))
    parents = {cell: where[cell][1] for cell in texts}
    told = {}
    for cell in texts:
        same = [other for other in texts if parents[other] == parents[cell]]
        told[cell] = (parents[cell], same.index(cell), texts[cell])
    return told


def own_fault(answer):
    return answer is not None and answer[0] == "fault" and answer[1] != "from"


def cause_of(both, one, cell):
    """both, one: PlainSheets."""
    if cell not in one.texts:
        return ("unseen",)
    if one.texts[cell] != both.texts[cell]:
        return ("text",)
    if one.on_ring(cell) != both.on_ring(cell):
        return ("ring",)
    answers, there = dict(both.fresh()), dict(one.fresh())
    for number, note in enumerate(both.reading(cell, answers, 1000)[2]):
        now = one.note(note[0], there)
        if repr(now) != repr(note):
            return ("read", number, now)
    raise AssertionError


class PlainHouse:

    def __init__(self, hand, deeds=()):
        self.hand = hand
        self.heard = PlainHeard(hand)
        self.heard.taken = sorted(deeds, key=mark)
        self.keeper = PlainKeeper()
        self.tables = {}

    def taken(self):
        return sorted(self.heard.taken, key=mark)

    def tell(self, act):
        return name(self.heard.tell(act))

    def take(self, deeds):
        return self.heard.hear(deeds)

    def know(self, hand, table):
        self.tables[hand] = joined_of(self.tables.get(hand, ()), table)

    def give(self, table):
        deeds = [deed for deed in self.taken() if not in_it(deed, table)]
        return ("give", self.hand, tuple(deeds)) if deeds else None

    def hear(self, parcel):
        word, hand, what = parcel
        if word == "have":
            self.know(hand, what)
            return self.give(what)
        for deed in what:
            self.know(hand, joined_of(deed[3], ((deed[0], deed[1] + 1),)))
        return self.take(what)

    def have(self):
        return ("have", self.hand, self.now())

    def known(self, hand):
        return self.tables.get(hand, ())

    def offer(self, hand):
        return self.give(self.known(hand))

    def now(self):
        return self.heard.seen()

    def waiting(self):
        return sorted(self.heard.waiting, key=name)

    def at(self, moment):
        return [deed for deed in self.taken() if in_it(deed, moment)]

    def is_whole(self, table):
        names = {name(deed) for deed in self.taken()}
        if any((hand, many - 1) not in names for hand, many in table):
            return False
        return all(in_it((hand, many - 1), table) for deed in self.at(table) for hand, many in deed[3])

    def cells(self, moment):
        return notebook_of(self.at(moment))

    def answers(self, moment):
        return PlainSheet(sheet_at(self.at(moment))).fresh()

    def settle(self):
        return self.keeper.tell(sheet_at(self.taken()))

    def page(self, moment, width=60):
        return page_at(self.at(moment), width)

    def moment_of(self, what):
        deed = [deed for deed in self.taken() if name(deed) == what][0]
        return joined_of(deed[3], ((what[0], what[1] + 1),))

    def difference(self, one, other):
        here, there = stands_at(self.at(one)), stands_at(self.at(other))
        return [(cell, here.get(cell), there.get(cell)) for cell in sorted(set(here) | set(there)) if here.get(cell) != there.get(cell)]

    def wrote(self, cell, moment):
        signs = [signs for shown, _, signs in self.cells(moment) if shown == cell][0]
        return [(*deed, "".join(sign for _, sign in run)) for deed, run in itertools.groupby(signs, key=lambda pair: pair[0][:2])]

    def touches(self, deed, cell):
        by_name = {name(other): other for other in self.taken()}
        kind, *rest = deed[4]
        if kind in ("off", "on"):
            return self.touches(by_name[rest[0]], cell)
        if kind == "strike":
            return any(by_name[sign[:2]][4][1] == cell for sign in rest[0])
        return (name(deed) if kind == "cell" else rest[0]) == cell

    def unaware(self, cell):
        near = [deed for deed in self.taken() if self.touches(deed, cell)]
        return [(name(one), name(other)) for one in near for other in near
                if mark(one) < mark(other) and one[0] != other[0] and not in_it(one, other[3]) and not in_it(other, one[3])]

    def broken(self, one, other):
        sheets = [PlainSheet(sheet_at(self.at(moment))) for moment in (joined_of(one, other), one, other)]
        answers = [dict(sheet.fresh()) for sheet in sheets]
        return [(cell, answers[0][cell], cause_of(sheets[0], sheets[1], cell), cause_of(sheets[0], sheets[2], cell)) for cell in sorted(answers[0])
                if own_fault(answers[0][cell]) and not own_fault(answers[1].get(cell)) and not own_fault(answers[2].get(cell))]

    def back(self, moment):
        now, then = off_of(self.taken()), off_of(self.at(moment))
        acts = []
        for deed in sorted(self.taken(), key=name):
            if deed[4][0] in ("off", "on"):
                continue
            what, inside = name(deed), in_it(deed, moment)
            if what not in now and (not inside or what in then):
                acts.append(("off", what))
            if what in now and inside and what not in then:
                acts.append(("on", what))
        return acts


# Acts by chance, of texts that mean something.

TEXTS = ("x = 1", "x = 2", "y = x + 1", "x = y", "y = 5 // x", "f(n) = n + x", "f(n) = n // 0", "z = f(2)", "z = x + y + q", "1 + true", "# note", "", "x x", "y",
         "[n * n for n in [1, 2, 3] if n != x]", "'a' + text(y)", "g(a, b) = if a < b then a else g(a - b, b)", "g(17, 5)", "g(1)", "if z == z then x else y", "w = w", "w")


def written_act(chance, deeds, cell):
    """A write into a cell: a whole text behind all of it, or a sign or two."""
    signs = [name(deed) + (number,) for deed in deeds if deed[4][0] == "write" and deed[4][1] == cell for number in range(len(deed[4][3]))]
    if signs and chance.random() < 0.9:
        return ("write", cell, chance.choice(signs + signs[-1:] * 5), chance.choice(["1", "0", "x", " ", " + 1", " + x", "y", "#", "'"]))
    return ("write", cell, None, chance.choice(TEXTS) or " ")


def house_act(chance, deeds):
    """An act that fits these deeds, all taken in."""
    cells = [name(deed) for deed in deeds if deed[4][0] == "cell"]
    stands = {}
    for deed in deeds:
        if deed[4][0] in ("cell", "place"):
            stands.setdefault(deed[4][-2], []).append(name(deed))
    roll = chance.random()
    if roll < 0.2 or not cells:
        parent = chance.choice([None, None] + cells)
        return ("cell", parent, chance.choice([None] + stands.get(parent, [])))
    empty = [cell for cell in cells if not any(deed[4][0] == "write" and deed[4][1] == cell for deed in deeds)]
    cell = chance.choice(cells)
    if roll < 0.65:
        return written_act(chance, deeds, chance.choice(empty) if empty else cell)
    if roll < 0.75:
        parent = chance.choice([None] + cells)
        return ("place", cell, parent, chance.choice([None] + stands.get(parent, [])))
    if roll < 0.85:
        signs = [name(deed) + (number,) for deed in deeds if deed[4][0] == "write" and deed[4][1] == cell for number in range(len(deed[4][3]))]
        if signs:
            return ("strike", tuple(sorted(chance.sample(signs, chance.randint(1, min(3, len(signs)))))))
    if roll < 0.88:
        return ("drop", cell)
    others = [name(deed) for deed in deeds if deed[4][0] not in ("off", "on")]
    return (chance.choice(["off", "on"]), chance.choice(others))
