"""Points 14 to 20 written out anew, and trees and sheets made by chance.

Nothing here uses the program but for telling texts as trees, and for showing trees made by chance.
Each expression is a generator that asks for the answers of those that stand in it and returns its own.
"""

from leafround.errors import NoSource
from leafround.sources import shown_tree, told_as

NONE = ("nobody",)


class Fault(Exception):
    pass


def inner(tree):
    """What stands in a tree, in the order of the text."""
    kind = tree[0]
    if kind in ("number", "truth", "words", "name"):
        return ()
    if kind == "call":
        return tree[3]
    if kind == "list":
        return tree[2]
    if kind == "each":
        return (tree[2],) + tuple(part for part in tree[4:] if part is not None)
    return {"own": tree[3:], "sign": tree[3:], "let": tree[3:]}.get(kind, tree[2:])


class Place:
    """An expression with its number; told apart by where it stands, not by what it is."""

    def __init__(self, cell, tree, count):
        self.cell, self.tree, self.number = cell, tree, count[0]
        count[0] += 1
        self.parts = [Place(cell, part, count) for part in inner(tree)]

    def all(self):
        return [self] + [place for part in self.parts for place in part.all()]


def many_in(items):
    return sum(1 + (many_in(worth) if kind == "list" else 0) for kind, worth in items)


def lists_in(items):
    return 1 + max([lists_in(worth) for kind, worth in items if kind == "list"], default=0)


def great(answer):
    kind, worth = answer
    if kind == "number":
        return len(str(abs(worth))) > 60
    if kind == "words":
        return len(worth) > 400
    return kind == "list" and (many_in(worth) > 200 or lists_in(worth) > 4)


def calculated(word, operands):
    """An answer or the word of a fault, looked up kind by kind."""
    kinds = [kind for kind, _ in operands]
    worths = [worth for _, worth in operands]
    one, other = (worths + [None, None])[:2]
    same = len(set(kinds)) == 1
    if word in ("==", "!="):
        return ("truth", (repr(operands[0]) == repr(operands[1])) == (word == "=="))
    if word == "+":
        return (kinds[0], one + other) if same and kinds[0] != "truth" else "kind"
    if word in ("<", "<="):
        if not same or kinds[0] not in ("number", "words"):
            return "kind"
        return ("truth", one < other or word == "<=" and one == other)
    if word in ("-", "*", "//", "rest"):
        if kinds != ["number", "number"]:
            return "kind"
        if word in ("//", "rest") and other == 0:
            return "nought"
        return ("number", {"-": lambda: one - other, "*": lambda: one * other, "//": lambda: one // other,
                           "rest": lambda: one - one // other * other}[word]())
    if word == "minus":
        return ("number", 0 - one) if kinds == ["number"] else "kind"
    if word == "not":
        return ("truth", one is False) if kinds == ["truth"] else "kind"
    if word == "len":
        return ("number", len(one)) if kinds[0] in ("words", "list") else "kind"
    if word == "sum":
        if kinds != ["list"] or any(kind != "number" for kind, _ in one):
            return "kind"
        return ("number", sum(worth for _, worth in one))
    if word == "text":
        if kinds == ["list"]:
            return "kind"
        return ("words", {"number": str(one), "words": one, "truth": str(one).lower()}[kinds[0]])
    if word == "pick":
        if kinds[0] not in ("words", "list") or kinds[1] != "number":
            return "kind"
        if other < 0 or other >= len(one):
            return "index"
        return one[other] if kinds[0] == "list" else ("words", one[other])
    return ("list", tuple(operands))


def answered(place, given, asked, body):
    """The generator of an expression: it asks for (place, given), is sent answers, and returns its answer."""
    tree, parts = place.tree, place.parts
    kind, at = tree[:2]

    def fault(word):
        return ("fault", word, place.cell, at)

    def ended(told):
        return fault(told) if isinstance(told, str) else fault("great") if great(told) else told

    def wants_truth(answer):
        if answer[0] != "truth":
            raise Fault(fault("kind"))
        return answer[1]

    if kind in ("number", "truth", "words"):
        return ended((kind, tree[2]))
    if kind == "name":
        if tree[2] in given:
            return given[tree[2]]
        lead = asked(tree[2])
        if lead[0] == "body":
            return fault("kind")
        if lead[0] != "answer":
            return fault(lead[0])
        return lead[2] if lead[2][0] != "fault" else ("fault", "from", lead[1])
    if kind == "call":
        if tree[2] in given:
            return fault("kind")
        lead = asked(tree[2])
        if lead[0] in ("nobody", "twice"):
            return fault(lead[0])
        if lead[0] == "answer" or len(lead[2]) != len(parts):
            return fault("kind")
        told = []
        for part in parts:
            told.append((yield part, given))
        return (yield body(tree[2]), dict(zip(lead[2], told)))
    if kind == "if":
        truth = wants_truth((yield parts[0], given))
        return (yield parts[1 if truth else 2], given)
    if kind in ("and", "or"):
        truth = wants_truth((yield parts[0], given))
        if truth is (kind == "or"):
            return ("truth", truth)
        return ("truth", wants_truth((yield parts[1], given)))
    if kind == "let":
        one = yield parts[0], given
        return (yield parts[1], dict(given, **{tree[2]: one}))
    if kind == "each":
        items = yield parts[1], given
        if items[0] != "list":
            return fault("kind")
        told = []
        for item in items[1]:
            within = dict(given, **{tree[3]: item})
            if tree[5] is None or wants_truth((yield parts[2], within)):
                told.append((yield parts[0], within))
        return ended(("list", tuple(told)))
    operands = []
    for part in parts:
        operands.append((yield part, given))
    return ended(calculated(tree[2] if kind in ("sign", "own") else kind, operands))


class Plain:
    """One way through a tree."""

    def __init__(self, cell, tree, world, steps=1000, deepest=90):
        self.world, self.bound, self.deepest = world, steps, deepest
        self.steps, self.reads, self.rows = 0, [], []
        self.root = Place(cell, tree, [0])
        self.bodies = {name: Place(lead[1], lead[3], [0]) for name, lead in world.items() if lead[0] == "body"}

    def asked(self, name):
        lead = self.world.get(name, NONE)
        if (name, lead) not in self.reads:
            self.reads.append((name, lead))
        return lead

    def told(self):
        answer = self.into(self.root, {}, 1)[0]
        return answer, self.steps, self.reads

    def into(self, place, given, depth):
        """The answer, and the number of its row."""
        if self.steps == self.bound or depth > self.deepest:
            word = "steps" if self.steps == self.bound else "deep"
            return ("fault", word, place.cell, place.tree[1]), None
        self.steps += 1
        going, parts, answer = answered(place, given, self.asked, self.bodies.get), [], None
        try:
            part, within = going.send(None)
            while True:
                answer, number = self.into(part, within, depth + 1)
                parts.append(number)
                if answer[0] == "fault":
                    break
                part, within = going.send(answer)
        except StopIteration as stop:
            answer = stop.value
        except Fault as fault:
            answer = fault.args[0]
        self.rows.append((place.cell, place.number, tuple(sorted(given.items())), tuple(parts), answer))
        return answer, len(self.rows) - 1


def plain_meaning(cell, tree, world, steps=1000):
    return Plain(cell, tree, world, steps).told()


def plain_whys(cell, tree, world):
    plain = Plain(cell, tree, world)
    answer = plain.told()[0]
    return answer[1] if answer[0] == "fault" and answer[1] in ("steps", "deep") else plain.rows


def plain_wrong(cell, tree, world, rows):
    """Of rows that have the right kinds: the first that isn't so, or how many there are, or None."""
    plain = Plain(cell, tree, world)
    places = {place.cell: place.all() for place in [plain.root, *plain.bodies.values()]}
    above = {}
    for number, (own, at, given, parts, answer) in enumerate(rows):
        if own not in places or not 0 <= at < len(places[own]):
            return number
        if any(not 0 <= part < number or part in above for part in parts) or len(set(parts)) < len(parts):
            return number
        going = answered(places[own][at], dict(given), plain.asked, plain.bodies.get)
        left, due = list(parts), None
        try:
            part, within = going.send(None)
            while True:
                if not left or rows[left[0]][:3] != (part.cell, part.number, tuple(sorted(within.items()))):
                    return number
                due = rows[left.pop(0)][4]
                if due[0] == "fault":
                    break
                part, within = going.send(due)
        except StopIteration as stop:
            due = stop.value
        except Fault as fault:
            due = fault.args[0]
        if left or repr(answer) != repr(due):
            return number
        above.update({part: number for part in parts})
    if not rows or rows[-1][:3] != (cell, 0, ()) or len(above) != len(rows) - 1 or len(rows) > 1000:
        return len(rows)

    def depth(number):
        return 1 + (depth(above[number]) if number in above else 0)

    return len(rows) if max(depth(number) for number in range(len(rows))) > 90 else None


# Sheets.

def told_or_none(text):
    try:
        told = told_as(text)
    except NoSource:
        return None
    return told if told[0] in ("gives", "shows") else None


def free_names(tree, given):
    """The free names of a tree, perhaps several times, in the text's order."""
    own = [tree[2]] if tree[0] in ("name", "call") and tree[2] not in given else []
    parts = inner(tree)
    for number, part in enumerate(parts):
        more = set()
        if tree[0] == "let" and number == 1:
            more = {tree[2]}
        if tree[0] == "each" and number != 1:
            more = {tree[3]}
        own = own + free_names(part, given | more)
    return own


class PlainSheet:

    def __init__(self, sheet):
        self.sheet = list(sheet)
        self.told = {cell: told_or_none(text) for cell, text in sheet}
        self.texts = dict(sheet)

    def takes(self, cell):
        told = self.told[cell]
        return told is not None and told[0] == "gives" and told[2] != ()

    def givers(self, name):
        return [cell for cell, _ in self.sheet if self.told[cell] is not None
                and self.told[cell][0] == "gives" and self.told[cell][1] == name]

    def names(self, cell):
        told = self.told[cell]
        if told is None:
            return []
        return list(dict.fromkeys(free_names(told[-1], set(told[2]) if told[0] == "gives" else set())))

    def leads(self, cell):
        found = [self.givers(name) for name in self.names(cell)]
        return list(dict.fromkeys(cells[0] for cells in found if len(cells) == 1))

    def beyond(self, cell):
        """All cells that ways of leads go to from a cell."""
        found, todo = set(), list(self.leads(cell))
        while todo:
            one = todo.pop()
            if one not in found:
                found.add(one)
                todo += self.leads(one)
        return found

    def on_ring(self, cell):
        return not self.takes(cell) and cell in self.beyond(cell)

    def lead(self, name, answers):
        cells = self.givers(name)
        if len(cells) != 1:
            return ("twice",) if cells else ("nobody",)
        if self.takes(cells[0]):
            return ("body", cells[0], *self.told[cells[0]][2:])
        return ("answer", cells[0], answers[cells[0]]) if cells[0] in answers else None

    def note(self, name, answers):
        lead = self.lead(name, answers)
        return (name, "text", lead[1], self.texts[lead[1]]) if lead[0] == "body" else (name, *lead)

    def reading(self, cell, answers, steps):
        told = self.told[cell]
        if told is None:
            try:
                told_as(self.texts[cell])
                return (None, 0, [])
            except NoSource as refused:
                return (("fault", "source", cell, refused.at), 0, [])
        given = {one[1] for one in self.told.values() if one is not None and one[0] == "gives"}
        world = {name: self.lead(name, answers) for name in given}
        world = {name: world[name] for name in world if world[name] is not None}
        answer, many, reads = plain_meaning(cell, told[-1], world, steps)
        return (answer, many, [self.note(name, answers) for name, _ in reads])

    def order(self):
        """The cells without arguments that are on no ring, each behind those that it leads to."""
        left = [cell for cell, _ in self.sheet if not self.takes(cell) and not self.on_ring(cell)]
        beyond = {cell: self.beyond(cell) for cell in left}
        return sorted(left, key=lambda cell: (len(beyond[cell]), cell))

    def fresh(self, steps=1000):
        answers = {cell: ("fault", "ring", cell) for cell, _ in self.sheet if self.on_ring(cell)}
        for cell in self.order():
            answers[cell] = self.reading(cell, answers, steps)[0]
        return [(cell, answers[cell]) for cell, _ in self.sheet if not self.takes(cell)]

    def is_ring(self, cell, ring):
        return (self.on_ring(cell) and ring[0] == cell and len(set(ring)) == len(ring)
                and all(other in self.leads(one) for one, other in zip(ring, ring[1:] + ring[:1])))

    def are_levels(self, levels):
        if [cell for cell, _ in levels] != [cell for cell, _ in self.sheet] or any(level < 0 for _, level in levels):
            return False
        level = dict(levels)
        return all(level[cell] >= level[other] + (not self.takes(cell) and not self.on_ring(cell))
                   for cell in level for other in self.leads(cell))


class PlainKeeper:
    """Point 23, word by word."""

    def __init__(self, steps=1000):
        self.steps, self.held, self.rows = steps, {}, []

    def tell(self, sheet):
        plain, rows = PlainSheet(sheet), {}
        answers = {cell: ("fault", "ring", cell) for cell, _ in sheet if plain.on_ring(cell)}
        for cell in answers:
            rows[cell] = (cell, "ring")
        for cell in plain.order():
            cause = self.cause(plain, cell, answers)
            rows[cell] = (cell, "kept")
            if cause is not None:
                rows[cell] = (cell, "read", cause)
                self.held[cell] = (plain.texts[cell], *plain.reading(cell, answers, self.steps))
            answers[cell] = self.held[cell][1]
        self.rows = [rows[cell] for cell, _ in sheet if cell in rows]
        return [(cell, answers[cell]) for cell, _ in sheet if cell in rows]

    def cause(self, plain, cell, answers):
        if cell not in self.held:
            return ("new",)
        if self.held[cell][0] != plain.texts[cell]:
            return ("text",)
        for number, note in enumerate(self.held[cell][3]):
            now = plain.note(note[0], answers)
            if repr(now) != repr(note):
                return ("note", number, now)
        return None

    def all_held(self):
        return [(cell, *self.held[cell]) for cell in sorted(self.held)]


# Trees by chance: mostly of the kinds that fit, each at of its own.

class Maker:

    def __init__(self, chance, names=("x", "y", "z", "p", "q"), calls=("f", "g", "x", "n")):
        self.chance, self.names, self.calls, self.at = chance, names, calls, 0
        self.given = []

    def next_at(self):
        self.at += 1
        return self.at

    def tree(self, room=4, kind=None):
        kind = kind or self.chance.choice(["number", "number", "truth", "words", "list"])
        if self.chance.random() < 0.04:
            kind = self.chance.choice(["number", "truth", "words", "list"])
        at, room = self.next_at(), room - 1
        roll = self.chance.random()
        if room <= 0:
            return self.leaf(at, kind)
        if roll < 0.1:
            return ("if", at, self.tree(room, "truth"), self.tree(room, kind), self.tree(room, kind))
        if roll < 0.2:
            return self.let(at, room, kind)
        if roll < 0.3:
            many = self.chance.choice([1, 1, 1, 2, 2, 4])
            return ("call", at, self.chance.choice(self.calls), tuple(self.tree(room) for _ in range(many)))
        if roll < 0.37:
            return ("pick", at, self.tree(room, self.chance.choice(["words", "list"])), self.tree(room, "number"))
        if roll < 0.45:
            return self.leaf(at, kind)
        return {"number": self.number, "truth": self.truth, "words": self.words, "list": self.list}[kind](at, room)

    def leaf(self, at, kind):
        if self.chance.random() < 0.35:
            return ("name", at, self.chance.choice(self.given * 3 + list(self.names)))
        if kind == "number":
            return ("number", at, self.chance.choice([0, 1, 2, 3, 3, 10, 10 ** 30, 10 ** 60 - 1]))
        if kind == "truth":
            return ("truth", at, self.chance.choice([True, False]))
        if kind == "words":
            return ("words", at, self.chance.choice(["", "a", "ab", "b c", "a" * 150]))
        return ("list", at, tuple(("number", self.next_at(), n) for n in range(self.chance.randint(0, 3))))

    def sign(self, at, signs, kind, room):
        return ("sign", at, self.chance.choice(signs), self.tree(room, kind), self.tree(room, kind))

    def let(self, at, room, kind):
        name = self.chance.choice(["k", "x", "f", "a"])
        one = self.tree(room)
        self.given.append(name)
        two = self.tree(room, kind)
        self.given.pop()
        return ("let", at, name, one, two)

    def number(self, at, room):
        roll = self.chance.random()
        if roll < 0.6:
            return self.sign(at, ["+", "-", "*", "//", "rest"], "number", room)
        if roll < 0.7:
            return ("minus", at, self.tree(room, "number"))
        word = self.chance.choice(["len", "sum"])
        return ("own", at, word, self.tree(room, "list"))

    def truth(self, at, room):
        roll = self.chance.random()
        if roll < 0.5:
            kind = self.chance.choice(["number", "words"])
            return self.sign(at, ["==", "!=", "<", "<="], kind, room)
        if roll < 0.6:
            return self.sign(at, ["==", "!="], "list", room)
        if roll < 0.7:
            return ("not", at, self.tree(room, "truth"))
        return (self.chance.choice(["and", "or"]), at, self.tree(room, "truth"), self.tree(room, "truth"))

    def words(self, at, room):
        if self.chance.random() < 0.4:
            return ("own", at, "text", self.tree(room, self.chance.choice(["number", "truth", "words"])))
        return self.sign(at, ["+"], "words", room)

    def list(self, at, room):
        roll = self.chance.random()
        if roll < 0.3:
            return self.sign(at, ["+"], "list", room)
        if roll < 0.6:
            return ("list", at, tuple(self.tree(room) for _ in range(self.chance.randint(0, 4))))
        name = self.chance.choice(["i", "x", "k"])
        source = self.tree(room, "list")
        self.given.append(name)
        body = self.tree(room)
        test = self.tree(room, "truth") if self.chance.random() < 0.5 else None
        self.given.pop()
        return ("each", at, body, name, source, test)


def world_by_chance(chance):
    """A world of x, y, z, f, g, n; p is nobody's, q twice given."""
    maker = Maker(chance, names=("x", "y", "z", "f"), calls=("f", "g", "y"))
    answers = [("number", 2), ("number", -3), ("truth", True), ("words", "ab"), ("words", ""),
               ("list", (("number", 1), ("words", "a"))), ("list", (("number", 1), ("number", 5))),
               ("fault", "nought", ("h", 1), 3), ("fault", "ring", ("h", 1)), ("fault", "source", ("h", 1), 0)]
    world = {"q": ("twice",)}
    for number, name in enumerate(("x", "y", "z")):
        world[name] = ("answer", ("h", number), chance.choice(answers[:7] * 3 + answers[7:]))
    if chance.random() < 0.5:
        world["p"] = ("nobody",)
    for number, (name, params) in enumerate((("f", ("a",)), ("g", ("a", "b")))):
        maker.given = list(params) * 2
        world[name] = ("body", ("h", 5 + number), params, maker.tree(chance.choice([1, 2, 3])))
    return world


def text_by_chance(chance):
    """A cell's text, of few names, so that cells meet."""
    maker = Maker(chance, names=("a", "b", "c", "d", "e", "n"), calls=("f", "g", "f", "g", "a"))
    roll = chance.random()
    if roll < 0.1:
        return chance.choice(["", "  ", "# a", "#", "1 +", "x x", "a = ", "1" * 401, "\u00e9", "f(a, a) = 1", "'"])
    params = []
    if roll < 0.3:
        params = chance.choice([["i"], ["i"], ["i", "j"]])
        ahead = chance.choice(["f", "g", "f", "g", "e"]) + "(" + ", ".join(params) + ") = "
    else:
        ahead = chance.choice(["a", "b", "c", "d", "e", "n"]) + " = " if roll < 0.85 else ""
    maker.given = params * 3
    text = ahead + shown_tree(maker.tree(chance.choice([1, 2, 2, 3])))
    return text if len(text) <= 400 else ahead + "1"


def sheet_by_chance(chance, many):
    return [(("h", number), text_by_chance(chance)) for number in range(many)]


def edited(chance, sheet):
    """Another sheet: a text or two changed, cells taken out, put in, put in another order."""
    sheet = list(sheet)
    for _ in range(chance.randint(0, 2)):
        number = chance.randrange(len(sheet))
        sheet[number] = (sheet[number][0], text_by_chance(chance))
    roll = chance.random()
    if roll < 0.2 and len(sheet) > 3:
        sheet.pop(chance.randrange(len(sheet)))
    elif roll < 0.4:
        left = [("h", number) for number in range(40) if ("h", number) not in dict(sheet)]
        sheet.insert(chance.randint(0, len(sheet)), (chance.choice(left), text_by_chance(chance)))
    elif roll < 0.5:
        chance.shuffle(sheet)
    return sheet
