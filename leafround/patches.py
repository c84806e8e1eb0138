"""Patches from one page to another: told, put on lines, judged; and the table of two pages."""

from leafround.errors import NoPatch
from leafround.forms import is_like, is_number


def table(old, new):
    """At [i][j] how many lines can be left of both the first i lines of the one and the first j of the other."""
    rows = [[0] * (len(new) + 1)]
    for line in old:
        rows.append(row_beneath(rows[-1], line, new))
    return rows


def row_beneath(above, line, new):
    """The row of a table for one line more."""
    row = [0]
    for number, other in enumerate(new):
        row.append(above[number] + 1 if line == other else max(above[number + 1], row[-1]))
    return row


def is_table(old, new, thing):
    """Whether anything is the table of two pages."""
    return is_like(thing, table(old, new))


def patch(old, new):
    """A patch that leads from the one page to the other, with as few lines put and cut as can be."""
    told = []
    cut = put = 0
    for one, other in kept(old, new):
        told.extend(changes(one - cut, new[put:other]))
        if told and told[-1][0] == "keep":
            told[-1] = ("keep", told[-1][1] + 1)
        else:
            told.append(("keep", 1))
        cut, put = one + 1, other + 1
    told.extend(changes(len(old) - cut, new[put:]))
    return told


def kept(old, new):
    """The lines that are kept, each by its numbers in both pages."""
    rows = table(old, new)
    one, other = len(old), len(new)
    pairs = []
    while one > 0 and other > 0:
        if old[one - 1] == new[other - 1]:
            one, other = one - 1, other - 1
            pairs.append((one, other))
        elif rows[one - 1][other] >= rows[one][other - 1]:
            one -= 1
        else:
            other -= 1
    return pairs[::-1]


def changes(many, lines):
    """The rows of a patch that cut so many lines and put these."""
    rows = [("cut", many)] if many > 0 else []
    return [*rows, ("put", tuple(lines))] if lines else rows


def put_on(lines, patch):
    """The lines that a patch makes of these."""
    told = []
    at = 0
    for number, (word, what) in enumerate(patch):
        if word == "put":
            told.extend(what)
            continue
        if what > len(lines) - at:
            raise NoPatch(number)
        if word == "keep":
            told.extend(lines[at:at + what])
        at += what
    if at < len(lines):
        raise NoPatch(len(patch))
    return told


def is_patch(old, new, thing):
    """Whether anything is a patch between two pages."""
    if not has_form(thing):
        return False
    try:
        told = put_on(old, thing)
    except NoPatch:
        return False
    # As few lines as can be are put and cut just where as many as can be are kept.
    many = sum([what for word, what in thing if word == "keep"])
    return told == list(new) and many == table(old, new)[-1][-1]


def has_form(thing):
    """Whether anything is made as patches are, whatever lines it leads to."""
    if not isinstance(thing, list) or not all([is_row(row) for row in thing]):
        return False
    return all([one[0] != other[0] for one, other in zip(thing, thing[1:])])


def is_row(thing):
    if not isinstance(thing, tuple) or len(thing) != 2:
        return False
    word, what = thing
    if word == "put":
        return isinstance(what, tuple) and len(what) > 0 and all([isinstance(line, str) for line in what])
    return word in ("keep", "cut") and is_number(what) and what > 0
