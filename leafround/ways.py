"""Ways along leads, a dict from cells to the lists of those that each leads to.

All by hand instead of by calls within calls: a way may be as long as there are cells.
"""


def finished(leads):
    """All cells, each behind those that it leads to, but where a way goes from there back to it."""
    told, seen = [], {}
    waiting = [(cell, False) for cell in leads]
    while waiting:
        cell, is_done = waiting.pop()
        if is_done:
            told.append(cell)
        elif cell not in seen:
            seen[cell] = True
            waiting.append((cell, True))
            waiting.extend([(other, False) for other in leads[cell]])
    return told


def turned(leads):
    """The leads the other way about."""
    back = {cell: [] for cell in leads}
    for cell in leads:
        for other in leads[cell]:
            back[other].append(cell)
    return back


def reached(start, leads, seen):
    """The cells that ways reach from a cell, itself too, through none that was seen; all are seen then."""
    told = []
    waiting = [start]
    while waiting:
        cell = waiting.pop()
        if cell not in seen:
            seen[cell] = True
            told.append(cell)
            waiting.extend(leads[cell])
    return told


def knots(leads):
    """The cells, parted into lists of those that lead round to one another, behind those they lead to."""
    back, seen, told = turned(leads), {}, []
    for cell in finished(leads)[::-1]:
        if cell not in seen:
            told.append(reached(cell, back, seen))
    return told[::-1]


def is_round(knot, leads):
    """Whether a way goes from each cell of a knot back to it."""
    return len(knot) > 1 or knot[0] in leads[knot[0]]


def way_back(leads, start):
    """A shortest way from a cell back to it: the cells on it, from that one on, or None."""
    ahead = {}
    level = [start]
    while level and start not in ahead:
        level = next_level(leads, level, ahead)
    if start not in ahead:
        return None
    way = [ahead[start]]
    while way[-1] != start:
        way.append(ahead[way[-1]])
    return way[::-1]


def next_level(leads, level, ahead):
    """The cells first reached one lead behind these; ahead has the one ahead of each on its way."""
    found = []
    for cell in level:
        for other in leads[cell]:
            if other not in ahead:
                ahead[other] = cell
                found.append(other)
    return found
