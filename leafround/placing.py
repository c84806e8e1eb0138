"""Where cells stand: places gone through by rising marks."""


class Placing:
    """Places by rising marks, each told, and where each cell stands behind the last one."""

    def __init__(self):
        # The places by rising marks: (mark, stand, cell, parent).
        self._places = []
        self._off = {}
        # What is told of each, and where its cell stood ahead of it, by the same numbers.
        self._told = []
        self._before = []
        # For each cell (stand, parent), where it stands now.
        self.stood = {}

    def put(self, place, off):
        """Put in a place at its mark, and go again through those of greater marks."""
        self._off[place[1]] = off
        at = self._number_behind(place[0])
        self._go_back(at)
        self._places.insert(at, place)
        self._go_on()

    def turn(self, mark, stand, off):
        """Turn the place of this mark off or on."""
        if self._off[stand] != off:
            self._off[stand] = off
            self._go_back(self._number_behind(mark) - 1)
            self._go_on()

    def told(self):
        return list(self._told)

    def _number_behind(self, mark):
        """How many places have this mark or a lesser one; late ones are few, so from the end."""
        at = len(self._places)
        while at > 0 and self._places[at - 1][0] > mark:
            at -= 1
        return at

    def _go_back(self, at):
        while len(self._told) > at:
            cell = self._places[len(self._told) - 1][2]
            before = self._before.pop()
            self._told.pop()
            if before is None:
                self.stood.pop(cell, None)
            else:
                self.stood[cell] = before

    def _go_on(self):
        for _, stand, cell, parent in self._places[len(self._told):]:
            self._before.append(self.stood.get(cell))
            # A making has the cell's own name, and is done always.
            if self._off[stand] and stand != cell:
                self._told.append((stand, "off", None))
                continue
            word, way = self._way_up(cell, parent)
            if word == "done":
                self.stood[cell] = (stand, parent)
            self._told.append((stand, word, way))

    def _way_up(self, cell, parent):
        """Whether a cell can stand beneath a parent, and the way up from there."""
        way = []
        while parent is not None:
            way.append(parent)
            if parent == cell:
                return "passed", tuple(way)
            parent = self.stood[parent][1]
        return "done", tuple(way)
