"""The papers of a page, and its judge."""

from leafround.answers import is_endless, is_told
from leafround.errors import NoWhy
from leafround.forms import is_like, is_name, is_number
from leafround.heard import Heard
from leafround.kept import Settling, fresh, settled
from leafround.meaning import STEPS
from leafround.notebook import notebook
from leafround.pages import WIDTH
from leafround.rings import least_levels, leads_round
from leafround.sheets import is_tree
from leafround.views import fresh_lines, lines_of, sheet_of
from leafround.ways import way_back
from leafround.whys import whys, wrong_why


def papers_of(sheet):
    """The papers of the page of a sheet: (levels, rings, whys)."""
    return papers_by(sheet, fresh(sheet))


def papers_by(sheet, answers):
    """The papers of a sheet whose cells without arguments answer so; answers a list of (cell, answer)."""
    settling = settled(sheet, dict(answers))
    laid, leads, ringed = settling.laid, settling.laid.leads(), settling.ringed()
    rings, reasons = [], []
    # In the sheet's order; cells with arguments have no papers but their levels.
    for cell in [one for one in laid.sources if one in ringed]:
        if ringed[cell]:
            rings.append((cell, way_back(leads, cell)))
        elif is_tree(laid.sources[cell]):
            reasons.append((cell, whys_or_none(cell, laid.sources[cell][-1], settling.world)))
    return least_levels(laid, leads), rings, reasons


def whys_or_none(cell, tree, world):
    try:
        return whys(cell, tree, world)
    except NoWhy:
        return None


def judged(deeds, lines, papers, *, width=WIDTH):
    """What isn't so first of the papers and the lines of a page of these deeds, or None."""
    cells = shown_by(deeds)
    bench = Bench(sheet_of(cells))
    wrong = bench.wrong_paper(papers)
    if wrong is not None:
        return wrong
    line = unlike_line(lines, lines_of(cells, bench.answers(), width))
    return None if line is None else ("line", *line)


def first_wrong(deeds, lines, *, width=WIDTH):
    """The first line (n, due) that isn't that of the page of these deeds, or None."""
    return unlike_line(lines, fresh_lines(shown_by(deeds), width))


def shown_by(deeds):
    """The shown cells of deeds handed in."""
    heard = Heard()
    heard.hear(deeds)
    return notebook(heard.taken())


def unlike_line(lines, due):
    """The number of the first line that isn't the one that is due, and that one, or None."""
    for number, (line, right) in enumerate(zip(lines, due)):
        if line != right:
            return number, right
    if len(lines) == len(due):
        return None
    number = min(len(lines), len(due))
    return number, (due[number] if number < len(due) else None)


def is_pair(thing):
    return isinstance(thing, tuple) and len(thing) == 2


def unlike_pair(pairs, cells, fits):
    """The number of the first pair that isn't of the cell there, with a thing that fits, or None."""
    for number, (pair, cell) in enumerate(zip(pairs, cells)):
        if not is_pair(pair) or not is_like(pair[0], cell) or not fits(pair[1]):
            return number
    return None if len(pairs) == len(cells) else min(len(pairs), len(cells))


def may_be_whys(thing):
    """Whether a thing is None, or a list whose last row tells an answer or a fault."""
    if thing is None:
        return True
    if not isinstance(thing, list) or len(thing) == 0:
        return False
    last = thing[-1]
    return isinstance(last, tuple) and len(last) == 5 and is_told(last[4])


class Bench:
    """The judge of one page's papers; what was let by is what it goes by."""

    def __init__(self, sheet):
        self._settling = Settling(sheet, STEPS)
        self._laid = self._settling.laid
        self._leads = self._laid.leads()
        self._rings = {}
        self._levels = {}

    def answers(self):
        """What each cell without arguments answers by the papers."""
        return list(self._settling.answers.items())

    def wrong_paper(self, papers):
        """The word and the number of what isn't so first, or None."""
        if not isinstance(papers, tuple) or len(papers) != 3 or not all([isinstance(part, list) for part in papers]):
            return ("papers", 0)
        levels, rings, reasons = papers
        if (number := unlike_pair(levels, list(self._leads), is_number)) is not None:
            return ("levels", number)
        self._levels = dict(levels)
        if (number := self._wrong_ring(rings)) is not None:
            return ("rings", number)
        self._rings = dict(rings)
        if (number := self._wrong_level()) is not None:
            return ("levels", number)
        if (number := unlike_pair(reasons, self._others(), may_be_whys)) is not None:
            return ("whys", number)
        self._settle(reasons)
        if (number := self._wrong_whys(reasons)) is not None:
            return ("whys", number)
        return None

    def _wrong_ring(self, rings):
        """The first pair that isn't a cell without arguments, further down the page, with a ring of it."""
        places = {cell: place for place, cell in enumerate(self._leads)}
        last = -1
        for number, pair in enumerate(rings):
            if not is_pair(pair) or not is_name(pair[0]) or places.get(pair[0], -1) <= last:
                return number
            cell, ring = pair
            if self._laid.takes_arguments(cell) or not leads_round(self._leads, cell, ring):
                return number
            last = places[cell]
        return None

    def _wrong_level(self):
        """The first cell out of which a level rises, or doesn't fall where it has to."""
        for number, cell in enumerate(self._leads):
            least = 0 if cell in self._rings or self._laid.takes_arguments(cell) else 1
            if any([self._levels[other] + least > self._levels[cell] for other in self._leads[cell]]):
                return number
        return None

    def _unringed(self):
        """The cells without arguments that are on no ring, in the page's order."""
        return [cell for cell in self._leads if cell not in self._rings and not self._laid.takes_arguments(cell)]

    def _others(self):
        """Those of them whose text is a tree."""
        return [cell for cell in self._unringed() if is_tree(self._laid.sources[cell])]

    def _settle(self, reasons):
        """Settle all answers by the papers; those cells alone are read of which they tell none."""
        told = {cell: rows[-1][4] for cell, rows in reasons if rows is not None}
        for cell in self._rings:
            told[cell] = ("fault", "ring", cell)
        for cell in told:
            self._settling.settle(cell, told[cell])
        left = [cell for cell in self._unringed() if cell not in told]
        # What a cell leads to has a lesser level, and is settled ahead of it.
        for cell in sorted(left, key=lambda one: self._levels[one]):
            self._settling.settle(cell, self._settling.read(cell)[0])

    def _wrong_whys(self, reasons):
        """The first pair whose rows aren't whys, or that has none though the cell's answer has whys."""
        for number, (cell, rows) in enumerate(reasons):
            if rows is None and not is_endless(self._settling.answers[cell]):
                return number
            if rows is not None and not self._are_whys(cell, rows):
                return number
        return None

    def _are_whys(self, cell, rows):
        return wrong_why(cell, self._laid.sources[cell][-1], self._settling.world, rows) is None
