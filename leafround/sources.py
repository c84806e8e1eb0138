"""Cells' texts told as trees, and trees shown as texts."""

from leafround.errors import NoSource
from leafround.parsing import Parser
from leafround.trees import ANY, ARGUMENTS_MOST, BETWEEN, MINUS, NOT, PICK, parts_of, tightness
from leafround.words import words_of

SIGNS_MOST = 400


def told_as(text):
    """What a cell's text tells; of anything else NoSource, with the place where it fails."""
    if not isinstance(text, str) or not all([" " <= sign <= "~" for sign in text]):
        raise NoSource(0)
    if len(text) > SIGNS_MOST:
        raise NoSource(SIGNS_MOST)
    bare = text.lstrip(" ")
    if bare == "":
        return ("empty",)
    if bare[0] == "#":
        return ("remark", bare[1:])
    words = words_of(text)
    behind = giving_words(words)
    if behind == 0:
        return ("shows", Parser(words).whole())
    params = params_of(words[2:behind - 2:2])
    return ("gives", words[0][1], params, Parser(words[behind:]).whole())


def giving_words(words):
    """How many words NAME = or NAME(NAME, ..) = takes where the words begin just so, else 0."""
    begun = [word if kind == "fixed" else kind for kind, word, _ in words[:2 * ARGUMENTS_MOST + 3]]
    if begun[:2] == ["name", "="]:
        return 2
    for many in range(1, ARGUMENTS_MOST + 1):
        names = ["name", ","] * (many - 1) + ["name"]
        form = ["name", "(", *names, ")", "="]
        if begun[:len(form)] == form:
            return len(form)
    return 0


def params_of(words):
    """The names of arguments, each told once."""
    params = {}
    for _, name, at in words:
        if name in params:
            raise NoSource(at)
        params[name] = True
    return tuple(params)


def shown_cell(told):
    """The text of what a cell's text is told as."""
    if told[0] == "empty":
        return ""
    if told[0] == "remark":
        return "#" + told[1]
    if told[0] == "shows":
        return shown_tree(told[1])
    _, name, params, tree = told
    given = "(" + ", ".join(params) + ")" if params else ""
    return name + given + " = " + shown_tree(tree)


def shown_tree(tree):
    """The text of a tree, with just the brackets and blanks that it needs."""
    texts = []
    # By hand instead of by calls within calls: a tree may be as deep as a text is long.
    waiting = [(tree, ANY)]
    while waiting:
        piece = waiting.pop()
        if isinstance(piece, str):
            texts.append(piece)
        else:
            waiting.extend(bracketed(piece)[::-1])
    return "".join(texts)


def bracketed(piece):
    """The pieces of a tree that has to be so tight, in brackets where it isn't."""
    tree, need = piece
    pieces = pieces_of(tree)
    return ["(", *pieces, ")"] if tightness(tree) < need else pieces


def pieces_of(tree):
    """The texts and the trees within a tree, each of these with how tight it has to be."""
    kind = tree[0]
    if kind in ("number", "truth", "words", "name"):
        return [leaf_text(tree)]
    if kind in ("sign", "and", "or"):
        word = tree[2] if kind == "sign" else kind
        _, left, right = BETWEEN[word]
        return [(tree[-2], left), " " + word + " ", (tree[-1], right)]
    if kind == "not":
        return ["not ", (tree[2], NOT)]
    if kind == "minus":
        return ["-", (tree[2], MINUS)]
    if kind == "pick":
        return [(tree[2], PICK), "[", (tree[3], ANY), "]"]
    if kind == "call" or kind == "own":
        items = items_pieces(parts_of(tree))
        return [tree[2], "(", *items, ")"]
    if kind == "list":
        items = items_pieces(parts_of(tree))
        return ["[", *items, "]"]
    return form_pieces(tree)


def leaf_text(tree):
    if tree[0] == "truth":
        return "true" if tree[2] else "false"
    if tree[0] == "words":
        return "'" + tree[2] + "'"
    return str(tree[2])


def items_pieces(items):
    pieces = []
    for item in items:
        if pieces:
            pieces.append(", ")
        pieces.append((item, ANY))
    return pieces


def form_pieces(tree):
    """The pieces of the forms of several words: if, let, and what is told for each."""
    if tree[0] == "if":
        _, _, ask, yes, other = tree
        return ["if ", (ask, ANY), " then ", (yes, ANY), " else ", (other, ANY)]
    if tree[0] == "let":
        _, _, name, one, two = tree
        return ["let " + name + " = ", (one, ANY), " in ", (two, ANY)]
    _, _, body, name, source, test = tree
    pieces = ["[", (body, ANY), " for " + name + " in ", (source, ANY)]
    if test is not None:
        pieces = [*pieces, " if ", (test, ANY)]
    return [*pieces, "]"]


def free(tree, params):
    """The names that nothing in the tree and none of the arguments gives, in the text's order."""
    names = {}
    waiting = [(tree, params)]
    while waiting:
        part, given = waiting.pop()
        if part[0] in ("name", "call") and part[2] not in given:
            names[part[2]] = True
        waiting.extend(given_parts(part, given)[::-1])
    return list(names)


def given_parts(tree, given):
    """The parts of a tree, each with the names given there."""
    parts = parts_of(tree)
    if tree[0] == "let":
        return [(parts[0], given), (parts[1], (*given, tree[2]))]
    if tree[0] == "each":
        within = (*given, tree[3])
        return [(part, given if number == 1 else within) for number, part in enumerate(parts)]
    return [(part, given) for part in parts]
