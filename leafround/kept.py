"""Readings of cells, fresh answers, and a keeper that reads a cell only where it has to be read."""

from leafround.forms import is_like
from leafround.meaning import STEPS, meaning
from leafround.sheets import Sheet, is_tree
from leafround.ways import is_round, knots


class Settling:
    """A sheet whose cells' answers are settled one by one, each behind those that it leads to."""

    def __init__(self, sheet, steps):
        self.laid = Sheet(sheet)
        self.answers = {}
        self._steps = steps
        # What each name leads to that is given; a cell without arguments only once it is settled.
        self.world = {}
        for name in self.laid.givers:
            cells = self.laid.givers[name]
            if len(cells) > 1:
                self.world[name] = ("twice",)
            elif self.laid.takes_arguments(cells[0]):
                _, _, params, tree = self.laid.sources[cells[0]]
                self.world[name] = ("body", cells[0], params, tree)

    def settle(self, cell, answer):
        self.answers[cell] = answer
        told = self.laid.sources[cell]
        if told[0] == "gives" and len(self.laid.givers[told[1]]) == 1:
            self.world[told[1]] = ("answer", cell, answer)

    def read(self, cell):
        """The reading of a cell: (answer, steps, notes)."""
        told = self.laid.sources[cell]
        if told[0] == "wrong":
            return (("fault", "source", cell, told[1]), 0, [])
        if not is_tree(told):
            return (None, 0, [])
        answer, steps, reads = meaning(cell, told[-1], self.world, steps=self._steps)
        return (answer, steps, [self.note(name) for name, _ in reads])

    def note(self, name):
        """What a name leads to now, as a note."""
        lead = self.world.get(name, ("nobody",))
        if lead[0] == "body":
            return (name, "text", lead[1], self.laid.texts[lead[1]])
        return (name, *lead)

    def ringed(self):
        """The cells without arguments, each with whether it is on a ring, behind those that it leads to."""
        leads = self.laid.leads()
        found = {}
        for knot in knots(leads):
            for cell in knot:
                if not self.laid.takes_arguments(cell):
                    found[cell] = is_round(knot, leads)
        return found


def settled(sheet, answers, *, steps=STEPS):
    """A sheet whose cells without arguments answer so, as far as it is told; answers a dict."""
    settling = Settling(sheet, steps)
    for cell in settling.laid.sources:
        if cell in answers and not settling.laid.takes_arguments(cell):
            settling.settle(cell, answers[cell])
    return settling


def reading(sheet, cell, answers, *, steps=STEPS):
    """The reading of a cell, where those that it leads to answer so: (answer, steps, notes)."""
    return settled(sheet, answers, steps=steps).read(cell)


def fresh(sheet, *, steps=STEPS):
    """The answers of all cells without arguments, each read anew."""
    return Keeper(steps=steps).tell(sheet)


class Keeper:
    """Holds the last reading of each cell that it ever read, and reads it again only where it has to."""

    def __init__(self, *, steps=STEPS, held=()):
        self._steps = steps
        # For each cell the text that was read, and its reading.
        self._readings = {}
        for cell, text, answer, many, notes in held:
            self._readings[cell] = (text, answer, many, list(notes))
        self._last = []

    def tell(self, sheet):
        """Settle a sheet, and tell its answers."""
        settling = Settling(sheet, self._steps)
        ringed = settling.ringed()
        causes = {}
        for cell in ringed:
            if ringed[cell]:
                causes[cell] = ("ring",)
                settling.settle(cell, ("fault", "ring", cell))
            else:
                causes[cell] = self._settle(settling, cell)
        cells = [cell for cell in settling.laid.sources if cell in causes]
        self._last = [(cell, *causes[cell]) for cell in cells]
        return [(cell, settling.answers[cell]) for cell in cells]

    def rows(self):
        """For each cell of the last sheet without arguments, whether and why it was read."""
        return list(self._last)

    def held(self):
        """What is held: (cell, text, answer, steps, notes), by rising cells."""
        told = []
        for cell in sorted(self._readings):
            text, answer, many, notes = self._readings[cell]
            told.append((cell, text, answer, many, list(notes)))
        return told

    def _settle(self, settling, cell):
        """Settle a cell that is on no ring by what is held, or by a reading; what its row tells of it."""
        cause = self._cause(settling, cell)
        if cause is not None:
            self._readings[cell] = (settling.laid.texts[cell], *settling.read(cell))
        settling.settle(cell, self._readings[cell][1])
        return ("kept",) if cause is None else ("read", cause)

    def _cause(self, settling, cell):
        """Why a cell has to be read, or None."""
        if cell not in self._readings:
            return ("new",)
        text, _, _, notes = self._readings[cell]
        if text != settling.laid.texts[cell]:
            return ("text",)
        for number, note in enumerate(notes):
            now = settling.note(note[0])
            if now != note:
                return ("note", number, now)
        return None


def wrong_row(held, sheet, thing, *, steps=STEPS):
    """The number of the first row where anything isn't the rows of a keeper who holds this, or None."""
    if not isinstance(thing, list):
        return 0
    keeper = Keeper(steps=steps, held=held)
    keeper.tell(sheet)
    due = keeper.rows()
    for number, (row, right) in enumerate(zip(thing, due)):
        if not is_like(row, right):
            return number
    return None if len(thing) == len(due) else min(len(thing), len(due))
