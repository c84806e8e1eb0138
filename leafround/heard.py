"""What a house has heard: deeds taken in, and deeds that wait for others."""

from heapq import heappop, heappush

from leafround.deeds import Past, is_deed, mark_of, name_of
from leafround.errors import NoAct, NoDeed
from leafround.forms import is_act, is_name
from leafround.texts import shown


class Heard:
    """Deeds taken in and waiting, of a house of this hand, or of none."""

    def __init__(self, *, hand=None, taken=(), waiting=()):
        self._hand = hand
        self._past = Past(taken)
        self._taken = self._past.by_name
        self._waiting = {}
        # The names of those that wait, by a name that each lacks.
        self._behind = {}
        # Those that wait though they lack nothing any more, as a heap by marks.
        self._ready = []
        for deed in waiting:
            self._let_wait(deed)

    def hear(self, deeds):
        """Look at deeds handed in; a row tells of each, and of those that no longer wait."""
        for place, deed in enumerate(deeds):
            if not is_deed(deed):
                raise NoDeed(place)
        rows = []
        for deed in deeds:
            rows.append(self._looked_at(deed))
        while self._ready:
            _, name = heappop(self._ready)
            rows.append(self._judged(self._waiting.pop(name)))
        return rows

    def tell(self, act):
        """Tell a deed of this hand and take it in."""
        if not is_act(act):
            raise NoAct("form")
        seen = self.seen()
        many = self._past.many_of(self._hand)
        deed = (self._hand, many, self._past.next_stamp(seen), seen, act)
        word = self._past.word_against(deed)
        if word is not None:
            raise NoAct(word)
        self._take_in(deed)
        return deed

    def taken(self):
        return sorted(list(self._taken.values()), key=mark_of)

    def waits(self):
        """Those that wait, by marks; only deeds of one hand can share a mark."""
        return sorted(list(self._waiting.values()), key=lambda deed: (mark_of(deed), shown(deed)))

    def seen(self):
        """The seen that a deed told now has."""
        return self._past.seen()

    def is_whole(self, table):
        """Whether what a table tells of was taken in, and has seen nothing beyond it."""
        return self._past.is_whole(table)

    def deed(self, name):
        """The deed of this name that was taken in, or None."""
        return self._taken.get(name) if is_name(name) else None

    def __len__(self):
        return len(self._taken)

    def __eq__(self, other):
        return isinstance(other, Heard) and self._taken == other._taken and self._waiting == other._waiting

    def _looked_at(self, deed):
        name = name_of(deed)
        there = self._taken.get(name, self._waiting.get(name))
        if there == deed:
            return (name, "had")
        if there is not None:
            return (name, "pair", there)
        if deed[0] == self._hand:
            return (name, "own")
        lacked = self._past.lacked_by(deed)
        if lacked is not None:
            self._let_wait(deed)
            return (name, "waits", lacked)
        return self._judged(deed)

    def _judged(self, deed):
        """Take a deed in that lacks nothing, or find it wrong and keep nothing of it."""
        word = self._past.word_against(deed)
        if word is not None:
            return (name_of(deed), "wrong", word)
        self._take_in(deed)
        return (name_of(deed), "new")

    def _let_wait(self, deed):
        self._waiting[name_of(deed)] = deed
        self._stand_behind(deed)

    def _stand_behind(self, deed):
        lacked = self._past.lacked_by(deed)
        if lacked is None:
            heappush(self._ready, (mark_of(deed), name_of(deed)))
        else:
            # The last one that it lacks of that hand: all others of that hand come in ahead of it.
            last = (lacked[0], dict(deed[3])[lacked[0]] - 1)
            self._behind.setdefault(last, []).append(name_of(deed))

    def _take_in(self, deed):
        self._past.put(deed)
        names = self._behind.pop(name_of(deed), [])
        for name in names:
            self._stand_behind(self._waiting[name])
