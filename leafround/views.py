"""Shown cells, as a notebook tells them, made into sheets and pages."""

from leafround.kept import fresh
from leafround.pages import page_of


def text_of(signs):
    return "".join([sign for _, sign in signs])


def sheet_of(cells):
    """The sheet of shown cells."""
    return [(cell, text_of(signs)) for cell, _, signs in cells]


def lines_of(cells, answers, width):
    """The lines of a page of shown cells that answer so; answers a list of (cell, answer)."""
    found = dict(answers)
    rows = [(cell, depth, text_of(signs), found.get(cell)) for cell, depth, signs in cells]
    return page_of(rows, width=width)[0]


def fresh_lines(cells, width):
    """The lines of a page of shown cells, each read anew."""
    return lines_of(cells, fresh(sheet_of(cells)), width)


def stands_of(cells):
    """For each shown cell its parent, its place among the shown cells of that one, and its text."""
    found = {}
    # The cells beneath which the next one may stand, and how many have stood beneath each.
    above, many = [], {}
    for cell, depth, signs in cells:
        del above[depth:]
        parent = above[-1] if above else None
        found[cell] = (parent, many.get(parent, 0), text_of(signs))
        many[parent] = many.get(parent, 0) + 1
        above.append(cell)
    return found
