"""The notebook: what is off, where cells stand, what is shown."""

from leafround.deeds import mark_of, name_of
from leafround.errors import NoCell
from leafround.forms import is_name
from leafround.placing import Placing
from leafround.rows import Row, plain_row


def off_names(deeds):
    """The names of the deeds that are off, rising."""
    return sorted(off_table(deeds))


def off_table(deeds):
    """The names of the deeds that are off, each with True."""
    last = {}
    for deed in deeds:
        word = deed[4][0]
        if word == "off" or word == "on":
            turn = (mark_of(deed), word)
            last[deed[4][1]] = max(turn, last.get(deed[4][1], turn))
    return {name: True for name in last if last[name][1] == "off"}


def places(deeds):
    """What is told of each place, by marks."""
    return placed(deeds, off_table(deeds)).told()


def notebook(deeds):
    """The shown cells of a whole list of deeds: (cell, depth, signs)."""
    off = off_table(deeds)
    stands, signs, texts, hidden = {}, {}, {}, {}
    for deed in deeds:
        act = deed[4]
        if makes_stand(deed):
            stands.setdefault(act[-2], []).append(stand_put(deed))
        elif act[0] == "write":
            signs.setdefault(act[1], []).append(signs_put(deed))
            texts[name_of(deed)] = act[3]
        for thing in hidden_by(deed, name_of(deed) in off):
            hidden[thing] = True
    rows = {parent: plain_row(stands[parent]) for parent in stands}
    told = []
    for cell, depth in listed(rows, placed(deeds, off).stood, hidden):
        row = plain_row(signs.get(cell, []))
        told.append((cell, depth, shown_signs(row, texts, hidden)))
    return told


def placed(deeds, off):
    """All places of a whole list of deeds, gone through once."""
    placing = Placing()
    for deed in sorted(deeds, key=mark_of):
        if makes_stand(deed):
            placing.put(place_of(deed), name_of(deed) in off)
    return placing


def makes_stand(deed):
    return deed[4][0] == "cell" or deed[4][0] == "place"


def place_of(deed):
    """The place of a deed that makes a stand: (mark, stand, cell, parent)."""
    act = deed[4]
    cell = name_of(deed) if act[0] == "cell" else act[1]
    return (mark_of(deed), name_of(deed), cell, act[-2])


def stand_put(deed):
    """The put of a stand into the row of its parent."""
    return (mark_of(deed), (name_of(deed),), deed[4][-1])


def signs_put(deed):
    """The put of written signs into the row of their cell."""
    return (mark_of(deed), signs_of(deed), deed[4][2])


def signs_of(deed):
    return tuple([(deed[0], deed[1], number) for number in range(len(deed[4][3]))])


def hidden_by(deed, off):
    """The cells or signs that a deed hides: those it makes while it is off, others while it isn't."""
    kind = deed[4][0]
    if off and kind == "cell":
        return (name_of(deed),)
    if off and kind == "write":
        return signs_of(deed)
    if not off and kind == "drop":
        return (deed[4][1],)
    if not off and kind == "strike":
        return deed[4][1]
    return ()


def listed(rows, stood, hidden):
    """The shown cells with their depths: each where it stands, ahead of those beneath it."""
    here = {stood[cell][0]: cell for cell in stood if cell not in hidden}
    told = []
    # By hand instead of by calls within calls: cells may stand deep beneath one another.
    waiting = [(stand, 0) for stand in rows.get(None, [])[::-1]]
    while waiting:
        stand, depth = waiting.pop()
        if stand in here:
            cell = here[stand]
            told.append((cell, depth))
            waiting.extend([(beneath, depth + 1) for beneath in rows.get(cell, [])[::-1]])
    return told


def shown_signs(row, texts, hidden):
    """The (name, sign) of those signs of a row that aren't hidden."""
    return tuple([(sign, texts[sign[:2]][sign[2]]) for sign in row if sign not in hidden])


class Notebook:
    """A notebook to which deeds are added one by one, each behind all that it has seen."""

    def __init__(self):
        self._deeds = {}
        self._texts = {}
        self._stands = {None: Row()}
        self._signs = {}
        self._placing = Placing()
        # For each deed that an off or on names, the mark and word of the last such, by marks.
        self._turns = {}
        # For each hidden cell or sign, how many deeds hide it.
        self._hidden = {}

    def add(self, deed):
        act = deed[4]
        self._deeds[name_of(deed)] = deed
        if act[0] == "cell":
            self._stands[name_of(deed)] = Row()
            self._signs[name_of(deed)] = Row()
        if makes_stand(deed):
            mark, names, behind = stand_put(deed)
            self._stands[act[-2]].put(mark, names, behind)
            self._placing.put(place_of(deed), False)
        elif act[0] == "write":
            mark, names, behind = signs_put(deed)
            self._signs[act[1]].put(mark, names, behind)
            self._texts[name_of(deed)] = act[3]
        elif act[0] == "off" or act[0] == "on":
            self._turn(self._deeds[act[1]], (mark_of(deed), act[0]))
        self._hide(hidden_by(deed, False), 1)

    def signs(self, cell):
        """The row of a cell's signs, shown or not."""
        if not self._is_made(cell):
            raise NoCell(cell)
        return self._signs[cell].names()

    def stands(self, parent):
        """The row of the stands beneath a cell, or at the top."""
        if parent is not None and not self._is_made(parent):
            raise NoCell(parent)
        return self._stands[parent].names()

    def places(self):
        """What is told of each place, by marks."""
        return self._placing.told()

    def cells(self):
        """The shown cells: (cell, depth, signs)."""
        told = []
        for cell, depth in self._listed():
            told.append((cell, depth, self._shown_signs(cell)))
        return told

    def text(self, cell):
        """The shown signs of a shown cell."""
        if not self._is_shown(cell):
            raise NoCell(cell)
        return "".join([sign for _, sign in self._shown_signs(cell)])

    def __len__(self):
        return len(self._listed())

    def _turn(self, deed, turn):
        """Turn a deed off or on, where no off or on of a greater mark has."""
        name = name_of(deed)
        last = self._turns.get(name, (None, "on"))
        if name in self._turns and last > turn:
            return
        self._turns[name] = turn
        was_off, is_off = last[1] == "off", turn[1] == "off"
        if was_off == is_off:
            return
        self._hide(hidden_by(deed, was_off), -1)
        self._hide(hidden_by(deed, is_off), 1)
        if deed[4][0] == "place":
            self._placing.turn(mark_of(deed), name, is_off)

    def _hide(self, things, by):
        """Count one deed more or less that hides these."""
        for thing in things:
            many = self._hidden.get(thing, 0) + by
            if many == 0:
                self._hidden.pop(thing)
            else:
                self._hidden[thing] = many

    def _is_made(self, cell):
        return is_name(cell) and cell in self._signs

    def _is_shown(self, cell):
        if not self._is_made(cell):
            return False
        while cell is not None and cell not in self._hidden:
            cell = self._placing.stood[cell][1]
        return cell is None

    def _listed(self):
        rows = {parent: self._stands[parent].names() for parent in self._stands}
        return listed(rows, self._placing.stood, self._hidden)

    def _shown_signs(self, cell):
        return shown_signs(self._signs[cell].names(), self._texts, self._hidden)
