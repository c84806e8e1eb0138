"""What stands in a tree, and how tight each kind of expression is."""

# What E may stand anywhere, and what is closed in itself; the kinds between as tight as told.
ANY = 0
NOT = 3
MINUS = 7
PICK = 8
CLOSED = 9

# For each word between two: how tight the whole is, and how tight its left and right one must be.
BETWEEN = {
    "or": (1, 1, 2),
    "and": (2, 2, 3),
    "==": (4, 5, 5),
    "!=": (4, 5, 5),
    "<": (4, 5, 5),
    "<=": (4, 5, 5),
    "+": (5, 5, 6),
    "-": (5, 5, 6),
    "*": (6, 6, 7),
    "//": (6, 6, 7),
    "rest": (6, 6, 7),
}

# The most that may be open within one another, and the most in a call and in a list.
OPEN_MOST = 12
ARGUMENTS_MOST = 4
ITEMS_MOST = 40


def parts_of(tree):
    """The trees that stand in a tree, in the order of the text."""
    kind = tree[0]
    if kind in ("number", "truth", "words", "name"):
        return []
    if kind == "call":
        return list(tree[3])
    if kind == "list":
        return list(tree[2])
    if kind == "each":
        body, _, source, test = tree[2:]
        return [body, source] if test is None else [body, source, test]
    if kind in ("own", "sign", "let"):
        return list(tree[3:])
    return list(tree[2:])


def tightness(tree):
    """How tight the words of a tree hold together."""
    kind = tree[0]
    if kind in ("if", "let"):
        return ANY
    if kind == "not":
        return NOT
    if kind == "minus":
        return MINUS
    if kind == "pick":
        return PICK
    word = tree[2] if kind == "sign" else kind
    return BETWEEN[word][0] if word in BETWEEN else CLOSED
