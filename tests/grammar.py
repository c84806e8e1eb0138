"""Points 11 and 12 written out as rules, and texts made by them by chance.

Nothing here uses the program.
"""

import re

RULES = {
    "T": ["E0", "N = E0", "N ( P ) = E0"],
    "P": ["N", "N , N", "N , N , N", "N , N , N , N"],
    "E0": ["if E0 then E0 else E0", "let N = E0 in E0", "E1"],
    "E1": ["E1 or E2", "E2"],
    "E2": ["E2 and E3", "E3"],
    "E3": ["not E3", "E4"],
    "E4": ["E5 == E5", "E5 != E5", "E5 < E5", "E5 <= E5", "E5"],
    "E5": ["E5 + E6", "E5 - E6", "E6"],
    "E6": ["E6 * E7", "E6 // E7", "E6 rest E7", "E7"],
    "E7": ["- E7", "E8"],
    "E8": ["E8 [ E0 ]", "E9"],
    "E9": ["number", "true", "false", "quote", "N", "N ( A )", "len ( E0 )", "sum ( E0 )", "text ( E0 )", "[ ]",
           "[ L ]", "[ E0 for N in E0 ]", "[ E0 for N in E0 if E0 ]", "( E0 )"],
    "A": ["E0", "E0 , E0", "E0 , E0 , E0", "E0 , E0 , E0 , E0"],
    "L": ["E0", "L , E0"],
    "N": ["name"],
}
RULES = {left: [tuple(right.split()) for right in rights] for left, rights in RULES.items()}
OWN = "if then else let in and or not rest for true false len sum text".split()
WORD = re.compile(r"[a-z0-9]+|'[^']*'|//|==|!=|<=|[-<=+*()\[\],]|.", re.DOTALL)


def words_in(text):
    """The (kind, at) of each word; kind None of what is none."""
    words = []
    for found in WORD.finditer(text):
        word, kind = found.group(), None
        if word == " ":
            continue
        if word in OWN or re.fullmatch(r"//|==|!=|<=|[-<=+*()\[\],]", word):
            kind = word
        elif re.fullmatch("[a-z]{1,8}", word):
            kind = "name"
        elif re.fullmatch("0|[1-9][0-9]{0,59}", word):
            kind = "number"
        elif re.fullmatch("'[^']*'", word):
            kind = "quote"
        words.append((kind, found.start()))
    return words


def closure(chart, at):
    """All (left, right, dot, start) that hold behind the first words, by Earley's way."""
    todo = list(chart[at])
    while todo:
        left, right, dot, start = todo.pop()
        if dot < len(right):
            found = [(right[dot], each, 0, at) for each in RULES.get(right[dot], [])]
        else:
            found = [(one[0], one[1], one[2] + 1, one[3]) for one in list(chart[start])
                     if one[1][one[2]:one[2] + 1] == (left,)]
        for one in found:
            if one not in chart[at]:
                chart[at].add(one)
                todo.append(one)


def wrong_at(text):
    """The sign at which a text of right signs and lengths fails, or None; nests, counts of a list not looked at."""
    words = words_in(text)
    chart = [{("S", ("T",), 0, 0)}]
    closure(chart, 0)
    for number, (kind, at) in enumerate(words):
        chart.append({(left, right, dot + 1, start) for left, right, dot, start in chart[number]
                      if right[dot:dot + 1] == (kind,)})
        if not chart[-1]:
            return at
        closure(chart, number + 1)
    return None if ("S", ("T",), 1, 0) in chart[-1] else len(text)


def bare(tree):
    """A tree with 0 for each at."""
    if not isinstance(tree, tuple):
        return tree
    if tree and isinstance(tree[0], str):
        return tree[:1] + (0,) + tuple(bare(part) for part in tree[2:])
    return tuple(bare(part) for part in tree)


def free_in(tree, given):
    """The free names of a tree, perhaps several times, in the text's order."""
    kind = tree[0]
    if kind == "name":
        return [] if tree[2] in given else [tree[2]]
    if kind == "call":
        own = [] if tree[2] in given else [tree[2]]
        return own + [name for part in tree[3] for name in free_in(part, given)]
    if kind == "let":
        return free_in(tree[3], given) + free_in(tree[4], given | {tree[2]})
    if kind == "each":
        found = free_in(tree[2], given | {tree[3]}) + free_in(tree[4], given)
        return found + (free_in(tree[5], given | {tree[3]}) if tree[5] is not None else [])
    found = []
    for part in tree[2:]:
        if isinstance(part, tuple):
            for one in (part if kind == "list" else [part]):
                found += free_in(one, given)
    return found


class Writer:
    """Writes texts by chance, word by word, and knows the trees that they tell."""

    def __init__(self, chance, blanks=True):
        self.chance = chance
        self.blanks = blanks
        self.text = ""
        self.within = 0

    def word(self, word):
        beside = self.text[-1:].isalnum() and word[0].isalnum()
        many = self.chance.choice([0, 0, 1, 1, 2]) if self.blanks else 1
        self.text += " " * max(many, beside)
        self.text += word
        return len(self.text) - len(word)

    def name(self):
        name = self.chance.choice(["a", "b", "c", "x", "y", "abcdefgh", "iff", "nots", "texts"])
        return self.word(name), name

    def opened(self, word):
        self.within += 1
        return self.word(word)

    def closed(self, word=None):
        self.within -= 1
        if word is not None:
            self.word(word)

    def tree(self, level=0, room=4):
        """An expression at least as tight as this level, with room for so many within one another."""
        room -= 1
        if room <= 0 or self.within >= 9:
            return self.leaf()
        kind = self.chance.choice([level, level, 9, 9, *range(level, 10), "brackets"])
        if kind == "brackets":
            self.opened("(")
            tree = self.tree(0, room)
            self.closed(")")
            return tree
        make = (self.form, self.either, self.both, self.inverse, self.compared, self.added, self.times, self.minus,
                self.pick, self.leaf_or_more)[kind]
        return make(room)

    def between(self, left, words, right, room):
        one = self.tree(left, room)
        word = self.chance.choice(words)
        self.word(word)
        other = self.tree(right, room)
        return (word, one[1], one, other) if word in ("or", "and") else ("sign", one[1], word, one, other)

    def either(self, room):
        return self.between(1, ["or"], 2, room)

    def both(self, room):
        return self.between(2, ["and"], 3, room)

    def compared(self, room):
        return self.between(5, ["==", "!=", "<", "<="], 5, room)

    def added(self, room):
        return self.between(5, ["+", "-"], 6, room)

    def times(self, room):
        return self.between(6, ["*", "//", "rest"], 7, room)

    def inverse(self, room):
        at = self.opened("not")
        one = self.tree(3, room)
        self.closed()
        return ("not", at, one)

    def minus(self, room):
        at = self.opened("-")
        one = self.tree(7, room)
        self.closed()
        return ("minus", at, one)

    def pick(self, room):
        one = self.tree(8, room)
        self.opened("[")
        index = self.tree(0, room)
        self.closed("]")
        return ("pick", one[1], one, index)

    def form(self, room):
        if self.chance.random() < 0.5:
            at = self.opened("if")
            parts = [self.tree(0, room)]
            for word in ("then", "else"):
                self.word(word)
                parts.append(self.tree(0, room))
            self.closed()
            return ("if", at, *parts)
        at = self.opened("let")
        name = self.name()[1]
        self.word("=")
        one = self.tree(0, room)
        self.word("in")
        two = self.tree(0, room)
        self.closed()
        return ("let", at, name, one, two)

    def items(self, many, room):
        items = []
        for number in range(many):
            if number:
                self.word(",")
            items.append(self.tree(0, room))
        return tuple(items)

    def leaf_or_more(self, room):
        kind = self.chance.choice(["call", "own", "list", "each", "leaf"])
        if kind == "leaf":
            return self.leaf()
        if kind == "call":
            at, name = self.name()
            self.opened("(")
            given = self.items(self.chance.randint(1, 4), room)
            self.closed(")")
            return ("call", at, name, given)
        if kind == "own":
            word = self.chance.choice(["len", "sum", "text"])
            at = self.word(word)
            self.opened("(")
            one = self.tree(0, room)
            self.closed(")")
            return ("own", at, word, one)
        at = self.opened("[")
        tree = ("list", at, self.items(self.chance.randint(0, 4), room)) if kind == "list" else self.each(at, room)
        self.closed("]")
        return tree

    def each(self, at, room):
        body = self.tree(0, room)
        self.word("for")
        name = self.name()[1]
        self.word("in")
        source, test = self.tree(0, room), None
        if self.chance.random() < 0.5:
            self.word("if")
            test = self.tree(0, room)
        return ("each", at, body, name, source, test)

    def leaf(self):
        kind = self.chance.choice(["number", "truth", "words", "name", "name"])
        if kind == "number":
            number = self.chance.choice([0, 1, 7, 10, 200, 10 ** 60 - 1 if self.within < 2 else 3])
            return (kind, self.word(str(number)), number)
        if kind == "truth":
            truth = self.chance.choice([True, False])
            return (kind, self.word("true" if truth else "false"), truth)
        if kind == "words":
            text = self.chance.choice(["", " ", "a", "A b", "(", "# [", "\"", "1 + 2"])
            return (kind, self.word("'" + text + "'"), text)
        at, name = self.name()
        return (kind, at, name)
