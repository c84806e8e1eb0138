"""Deeds: their form, their names and marks, what they lack and what is wrong with them."""

from leafround.forms import is_act, is_hand, is_number, is_seen


def is_deed(thing):
    """Whether a thing is a deed by its form."""
    if not isinstance(thing, tuple) or len(thing) != 5:
        return False
    hand, many, stamp, seen, act = thing
    if not (is_hand(hand) and is_number(many) and is_number(stamp) and is_seen(seen)):
        return False
    # A deed has seen all of its own hand, and a hand of which nothing was seen isn't named.
    return dict(seen).get(hand, 0) == many and is_act(act)


def name_of(deed):
    return (deed[0], deed[1])


def mark_of(deed):
    return (deed[2], deed[0])


def lacks(deed, taken):
    """The first name that a deed has seen and that isn't taken in, or None."""
    return Past(taken).lacked_by(deed)


def wrong_by(deed, taken):
    """The first word that fits a deed that lacks nothing, or None where it is right."""
    return Past(taken).word_against(deed)


class Past:
    """The deeds taken in, laid out so that a deed is looked at without going through them all."""

    def __init__(self, deeds):
        self.by_name = {}
        # For each hand, at n: the greatest stamp of its deeds 0 to n, and all that these had seen.
        self._reach = {}
        for deed in sorted(deeds, key=name_of):
            self.put(deed)

    def put(self, deed):
        """Take in the next deed of its hand."""
        reach = self._reach.setdefault(deed[0], [])
        stamp, seen = reach[-1] if reach else (0, {})
        seen = {hand: seen[hand] for hand in seen}
        for hand, many in deed[3]:
            seen[hand] = max(many, seen.get(hand, 0))
        reach.append((max(stamp, deed[2]), seen))
        self.by_name[name_of(deed)] = deed

    def many_of(self, hand):
        return len(self._reach.get(hand, []))

    def seen(self):
        """The seen of a deed that has seen all of these."""
        return tuple([(hand, self.many_of(hand)) for hand in sorted(self._reach)])

    def is_whole(self, table):
        """Whether all that a table tells of is taken in, and all that had been seen there lies in it."""
        return all([self.many_of(hand) >= many for hand, many in table]) and self._has_seen_all(table)

    def next_stamp(self, seen):
        """The stamp of a deed that has seen this."""
        return max([self._reach[hand][many - 1][0] + 1 for hand, many in seen], default=0)

    def lacked_by(self, deed):
        for hand, many in deed[3]:
            if self.many_of(hand) < many:
                return (hand, self.many_of(hand))
        return None

    def word_against(self, deed):
        if not self._has_seen_all(deed[3]):
            return "seen"
        if deed[2] != self.next_stamp(deed[3]):
            return "stamp"
        seen = dict(deed[3])
        if not self._names_are_there(deed[4], seen):
            return "names"
        if not self._row_fits(deed[4]):
            return "row"
        return None

    def _has_seen_all(self, seen):
        """Whether all that the seen ones had seen is seen, too."""
        own = dict(seen)
        for hand, many in seen:
            beneath = self._reach[hand][many - 1][1]
            if any([own.get(other, 0) < beneath[other] for other in beneath]):
                return False
        return True

    def _act_seen(self, name, seen):
        """The act of a seen deed, or None of what wasn't seen."""
        if name[1] >= seen.get(name[0], 0):
            return None
        return self.by_name[name][4]

    def _made(self, name, seen, kinds):
        """Whether a seen deed of one of these kinds has the name; what is called None always is."""
        if name is None:
            return True
        act = self._act_seen(name, seen)
        return act is not None and act[0] in kinds

    def _sign_made(self, sign, seen):
        if sign is None:
            return True
        act = self._act_seen(sign[:2], seen)
        return act is not None and act[0] == "write" and sign[2] < len(act[3])

    def _names_are_there(self, act, seen):
        kind = act[0]
        if kind == "strike":
            return all([self._sign_made(sign, seen) for sign in act[1]])
        if kind == "off" or kind == "on":
            return self._made(act[1], seen, ("cell", "place", "write", "strike", "drop"))
        if not self._made(act[1], seen, ("cell",)):
            return False
        if kind == "cell":
            return self._made(act[2], seen, ("cell", "place"))
        if kind == "place":
            return self._made(act[2], seen, ("cell",)) and self._made(act[3], seen, ("cell", "place"))
        return kind == "drop" or self._sign_made(act[2], seen)

    def _row_fits(self, act):
        """Whether all that an act names as neighbours is of one row; its names are there."""
        kind = act[0]
        if kind == "cell" or kind == "place":
            parent, behind = act[-2:]
            return behind is None or self.by_name[behind][4][-2] == parent
        if kind == "write":
            return act[2] is None or self.by_name[act[2][:2]][4][1] == act[1]
        if kind == "strike":
            first = self.by_name[act[1][0][:2]][4][1]
            return all([self.by_name[sign[:2]][4][1] == first for sign in act[1]])
        return True
