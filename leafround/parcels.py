"""Tables of how many deeds there are of each hand, and parcels of deeds from house to house."""

from leafround.deeds import is_deed
from leafround.forms import is_hand, is_seen


def is_table(thing):
    """Whether a thing is a tuple of (hand, n), hands rising, n from 1 on."""
    return is_seen(thing)


def is_parcel(thing):
    """Whether a thing is ("have", hand, table) or ("give", hand, deeds)."""
    if not isinstance(thing, tuple) or len(thing) != 3 or not is_hand(thing[1]):
        return False
    word, _, what = thing
    if word == "have":
        return is_table(what)
    return word == "give" and are_given(what)


def are_given(thing):
    """Whether a thing is a tuple of one or more deeds."""
    return isinstance(thing, tuple) and len(thing) > 0 and all([is_deed(deed) for deed in thing])


def joined(one, other):
    """Of two tables the one that has each hand's greater number."""
    most = dict(one)
    for hand, many in other:
        most[hand] = max(many, most.get(hand, 0))
    return tuple(sorted(most.items()))


def common(one, other):
    """Of two tables the one that has the lesser number of each hand that both have."""
    many = dict(other)
    return tuple([(hand, min(most, many[hand])) for hand, most in one if hand in many])


def table_of(deed):
    """The table of what a deed had seen, with itself."""
    return joined(deed[3], ((deed[0], deed[1] + 1),))


def within(deeds, table):
    """Those of some deeds that lie in a table, in their order."""
    many = dict(table)
    return [deed for deed in deeds if deed[1] < many.get(deed[0], 0)]


def lacking(deeds, table):
    """Those of some deeds that a table lacks, in their order."""
    many = dict(table)
    return [deed for deed in deeds if deed[1] >= many.get(deed[0], 0)]
