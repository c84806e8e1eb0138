"""Rings of cells that lead round to themselves, and levels; told and judged."""

from leafround.forms import is_like, is_name, is_number
from leafround.sheets import Sheet
from leafround.ways import is_round, knots, way_back


def ring_of(sheet, cell):
    """A ring of a cell without arguments, from it on, or None."""
    laid = Sheet(sheet)
    if cell not in laid.sources or laid.takes_arguments(cell):
        return None
    return way_back(laid.leads(), cell)


def is_ring(sheet, cell, thing):
    """Whether anything is a ring of a cell without arguments."""
    laid = Sheet(sheet)
    if cell not in laid.sources or laid.takes_arguments(cell):
        return False
    return leads_round(laid.leads(), cell, thing)


def leads_round(leads, cell, thing):
    """Whether anything is a list of unlike cells from a cell on, each leading to the next, the last one to it."""
    if not isinstance(thing, list) or not all([is_name(one) and one in leads for one in thing]):
        return False
    if len(set(thing)) != len(thing) or thing[:1] != [cell]:
        return False
    return all([other in leads[one] for one, other in zip(thing, thing[1:] + thing[:1])])


def levels(sheet):
    """Levels of all cells, by the sheet's order: the least ones that can be."""
    laid = Sheet(sheet)
    return least_levels(laid, laid.leads())


def least_levels(laid, leads):
    falls = falls_of(laid, leads)
    found = {}
    for knot in knots(leads):
        level = 0
        for cell in knot:
            # What else is in the knot has no level yet; out of a knot of several cells none has to fall.
            beneath = [found[other] + falls[cell] for other in leads[cell] if other in found]
            level = max([level, *beneath])
        for cell in knot:
            found[cell] = level
    return [(cell, found[cell]) for cell in laid.sources]


def falls_of(laid, leads):
    """For each cell by how much levels have to fall out of it: 1 without arguments and on no ring, else 0."""
    falls = {}
    for knot in knots(leads):
        for cell in knot:
            falls[cell] = 0 if is_round(knot, leads) or laid.takes_arguments(cell) else 1
    return falls


def are_levels(sheet, thing):
    """Whether anything is levels of a sheet."""
    laid = Sheet(sheet)
    cells = list(laid.sources)
    if not isinstance(thing, list) or len(thing) != len(cells):
        return False
    for row, cell in zip(thing, cells):
        if not isinstance(row, tuple) or len(row) != 2 or not is_like(row[0], cell) or not is_number(row[1]):
            return False
    return are_falling(laid, dict(thing))


def are_falling(laid, found):
    """Whether levels rise along no lead, and fall along each that goes out of a cell where they have to."""
    leads = laid.leads()
    falls = falls_of(laid, leads)
    for cell in leads:
        if any([found[other] + falls[cell] > found[cell] for other in leads[cell]]):
            return False
    return True
