"""A house: it tells deeds and hears others', keeps them on a disk, and tells of the notebook at any moment."""

from leafround.books import Book
from leafround.deeds import mark_of, name_of
from leafround.errors import NoAct, NoCell, NoHand, NoMoment, NoName, NoParcel, Refused
from leafround.forms import is_hand, is_name
from leafround.heard import Heard
from leafround.judge import papers_by
from leafround.kept import Keeper, fresh
from leafround.moments import acts_back, broken_cells, differences, runs_of, unaware_pairs
from leafround.notebook import Notebook, notebook
from leafround.pages import WIDTH, window
from leafround.parcels import is_parcel, is_table, joined, lacking, table_of, within
from leafround.texts import read_all, shown
from leafround.views import lines_of, sheet_of


class House:
    """A house of this hand, of the deeds that its disk has, where it has one."""

    def __init__(self, hand, *, disk=None):
        if not is_hand(hand):
            raise NoHand(hand)
        self._hand = hand
        self._book = None if disk is None else Book(disk, hand)
        # The deeds that were taken in and stand written, by names; len and == go by these alone.
        self._taken = {}
        self._notebook = Notebook()
        if self._book is not None:
            self._take_in(read_all("\n".join(self._book.rows())))
        self._heard = Heard(hand=hand, taken=tuple(list(self._taken.values())))
        self._keeper = Keeper()
        # What tables are known of other hands.
        self._tables = {}

    # Deeds, told and heard.

    def tell(self, act):
        """Tell a deed; its name."""
        self._check()
        deed = self._heard.tell(act)
        self._write([deed])
        return name_of(deed)

    def several(self, acts):
        """Tell deeds one behind the other, all or none; their names."""
        self._check()
        deeds = []
        for place, act in enumerate(acts):
            try:
                deeds.append(self._heard.tell(act))
            except NoAct as refused:
                # None of them was written, so that what stands written is all that was heard ahead.
                taken = tuple(list(self._taken.values()))
                self._heard = Heard(hand=self._hand, taken=taken, waiting=tuple(self._heard.waits()))
                raise Refused(place) from refused
        self._write(deeds)
        return [name_of(deed) for deed in deeds]

    def take(self, deeds):
        """Look at deeds handed in; a row tells of each, and of those that no longer wait."""
        self._check()
        rows = self._heard.hear(deeds)
        self._write([self._heard.deed(row[0]) for row in rows if row[1] == "new"])
        return rows

    def hear(self, parcel):
        """Hear a parcel: a give or None of a have, the rows that tell of its deeds of a give."""
        self._check()
        if not is_parcel(parcel) or parcel[1] == self._hand:
            raise NoParcel(parcel)
        word, hand, what = parcel
        if word == "have":
            self._know(hand, what)
            return self._give(what)
        for deed in what:
            self._know(hand, table_of(deed))
        return self.take(list(what))

    def have(self):
        """The parcel of what was taken in here."""
        return ("have", self._hand, self.now())

    def known(self, hand):
        """The table of what is known to be at another hand's house."""
        self._check()
        if not is_hand(hand) or hand == self._hand:
            raise NoHand(hand)
        return self._tables.get(hand, ())

    def offer(self, hand):
        """The give of what isn't known to be at another hand's house, or None."""
        return self._give(self.known(hand))

    def deeds(self):
        """The deeds taken in, by marks."""
        self._check()
        return sorted(list(self._taken.values()), key=mark_of)

    def waiting(self):
        """The deeds that wait, by names."""
        self._check()
        return sorted(self._heard.waits(), key=name_of)

    # Moments.

    def now(self):
        """The table of what was taken in."""
        self._check()
        return self._heard.seen()

    def moment_of(self, name):
        """The moment of what a deed had seen, with itself."""
        self._check()
        deed = self._heard.deed(name)
        if deed is None:
            raise NoName(name)
        return table_of(deed)

    def is_whole(self, thing):
        """Whether anything is a whole moment of what was taken in."""
        self._check()
        return is_table(thing) and self._heard.is_whole(thing)

    def difference(self, one, other):
        """The (cell, one, other) of those cells that are unlike at two moments."""
        before, behind = [notebook(self._deeds_at(moment)) for moment in (one, other)]
        return differences(before, behind)

    def unaware(self, cell):
        """The pairs of names of deeds that touch a cell unaware of one another."""
        self._check()
        if not is_name(cell) or cell not in self._taken or self._taken[cell][4][0] != "cell":
            raise NoCell(cell)
        return unaware_pairs(cell, self._taken)

    def broken(self, one, other):
        """The cells that fail where two moments are joined, but at neither of them, with both causes."""
        first, second = [sheet_of(notebook(self._deeds_at(moment))) for moment in (one, other)]
        return broken_cells(sheet_of(notebook(self._deeds_at(joined(one, other)))), first, second)

    def back(self, moment):
        """The acts that lead back to a moment."""
        return acts_back(list(self._taken.values()), self._deeds_at(moment))

    # The notebook, of now or at a moment.

    def cells(self, *, at=None):
        """The shown cells: (cell, depth, signs)."""
        self._check()
        return self._notebook.cells() if at is None else notebook(self._deeds_at(at))

    def answers(self, *, at=None):
        """What each shown cell without arguments answers."""
        return self._settled(self.cells(at=at), at)

    def read(self):
        """What was read and what was kept when the notebook of now was settled last."""
        self._check()
        return self._keeper.rows()

    def page(self, *, at=None, width=WIDTH, top=0, rows=None):
        """The lines of the page, from the top one on, so many or all."""
        cells = self.cells(at=at)
        lines = lines_of(cells, self._settled(cells, at), width)
        return window(lines, top=top, rows=len(lines) if rows is None else rows)

    def papers(self, *, at=None):
        """The papers by which anybody can judge the page."""
        cells = self.cells(at=at)
        return papers_by(sheet_of(cells), self._settled(cells, at))

    def wrote(self, cell, *, at=None):
        """Who wrote the shown signs of a cell: (hand, k, text)."""
        found = {shown_cell: signs for shown_cell, _, signs in self.cells(at=at)}
        if not is_name(cell) or cell not in found:
            raise NoCell(cell)
        return runs_of(found[cell])

    def __len__(self):
        return len(self._taken)

    def __eq__(self, other):
        return isinstance(other, House) and self._taken == other._taken

    def _check(self):
        """Refuse where the house is done with."""
        if self._book is not None:
            self._book.check()

    def _write(self, deeds):
        """Write deeds as one record, and have them only once it stands."""
        deeds = sorted(deeds, key=mark_of)
        if self._book is not None:
            self._book.write([shown(deed) for deed in deeds])
        self._take_in(deeds)

    def _take_in(self, deeds):
        """Have deeds that are written, each behind all that it has seen."""
        for deed in deeds:
            self._taken[name_of(deed)] = deed
            self._notebook.add(deed)

    def _know(self, hand, table):
        self._tables[hand] = joined(self._tables.get(hand, ()), table)

    def _give(self, table):
        """The give of what a table lacks, or None."""
        deeds = lacking(self.deeds(), table)
        return ("give", self._hand, tuple(deeds)) if deeds else None

    def _deeds_at(self, moment):
        if not self.is_whole(moment):
            raise NoMoment(moment)
        return within(list(self._taken.values()), moment)

    def _settled(self, cells, at):
        """The answers of shown cells: of now as few as can be are read, at a moment all, and apart."""
        sheet = sheet_of(cells)
        return self._keeper.tell(sheet) if at is None else fresh(sheet)
