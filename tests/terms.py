"""Short words for trees, answers and worlds, as the tests write them by hand."""

from leafround.sources import told_as

CELL = ("a", 7)
MOST = 10 ** 60 - 1


def num(n, at=0):
    return ("number", at, n)


def number(n):
    return ("number", n)


def truth(b):
    return ("truth", b)


def words(text):
    return ("words", text)


def items(*answers):
    return ("list", answers)


def numbers(*ns):
    return items(*[number(n) for n in ns])


def fault(word, at, cell=CELL):
    return ("fault", word, cell, at)


def body(cell, text):
    """What a name leads to that a cell of this text gives."""
    _, _, params, tree = told_as(text)
    return ("body", cell, params, tree)


def answer(told, cell=("b", 1)):
    return ("answer", cell, told)


def nested(many, inner=()):
    """So many lists within one another."""
    told = ("list", tuple(inner))
    for _ in range(many - 1):
        told = ("list", (told,))
    return told


def balanced(leaves):
    """A tree of 2 * leaves - 1 expressions that isn't deep."""
    if leaves == 1:
        return num(1)
    return ("sign", 0, "+", balanced(leaves // 2), balanced(leaves - leaves // 2))


def chain(kind, many, leaf):
    """So many of one kind within one another, at 0 on; the leaf is the next deep."""
    tree = leaf
    for at in range(many - 1, -1, -1):
        tree = (kind, at, tree)
    return tree
