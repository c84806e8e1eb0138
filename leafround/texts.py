"""Deeds as rows of words, and back."""

from leafround.deeds import is_deed, mark_of
from leafround.errors import NoRow


def shown(deed):
    """A deed as one row of words."""
    hand, many, stamp, seen, act = deed
    return f"{hand} {many} {stamp} {shown_seen(seen)} {shown_act(act)}"


def shown_seen(seen):
    if len(seen) == 0:
        return "-"
    return ",".join([shown_name(pair) for pair in seen])


def shown_act(act):
    if act[0] == "strike":
        words = [shown_name(sign) for sign in act[1]]
    elif act[0] == "write":
        words = [shown_name(act[1]), shown_name(act[2]), act[3]]
    else:
        words = [shown_name(name) for name in act[1:]]
    return " ".join([act[0], *words])


def shown_name(name):
    """A name of a deed, a cell, a stand or a sign, or of nothing."""
    if name is None:
        return "-"
    return ":".join([str(part) for part in name])


def read(row):
    """The deed that a row writes."""
    deed = deed_in(row)
    if deed is None:
        raise NoRow(0)
    return deed


def shown_all(deeds):
    """Deeds as a text, a row each, by rising marks."""
    rows = sorted([(mark_of(deed), shown(deed)) for deed in deeds])
    return "\n".join([row for _, row in rows])


def read_all(text):
    """The deeds that a text's rows write, by rising marks."""
    if not isinstance(text, str):
        raise NoRow(0)
    if text == "":
        return []
    deeds = {}
    for place, row in enumerate(text.split("\n")):
        deed = deed_in(row)
        if deed is None or row in deeds:
            raise NoRow(place)
        deeds[row] = deed
    rows = sorted([(mark_of(deeds[row]), row) for row in deeds])
    return [deeds[row] for _, row in rows]


def deed_in(row):
    """The deed that a row writes, or None of what writes none."""
    if not isinstance(row, str):
        return None
    words = row.split(" ", 4)
    if len(words) < 5:
        return None
    hand, many, stamp, seen, act = words
    deed = (hand, number_in(many), number_in(stamp), seen_in(seen), act_in(act))
    # The parts that are none were read as what no deed has, so its form tells.
    return deed if is_deed(deed) else None


def act_in(row):
    """The act that a row's last words write; of other words something that is no act."""
    kind, *words = row.split(" ")
    if kind == "strike":
        return (kind, tuple([name_in(word) for word in words]))
    if kind == "write" and len(words) >= 3:
        # A text may hold blanks, several too, so it isn't parted.
        text = row.split(" ", 3)[3]
        return (kind, name_in(words[0]), name_in(words[1]), text)
    names = [name_in(word) for word in words]
    return (kind, *names)


def seen_in(word):
    if word == "-":
        return ()
    return tuple([name_in(pair) for pair in word.split(",")])


def name_in(word):
    """The name that a word writes, None of a -; of another word something that is no name."""
    if word == "-":
        return None
    hand, *words = word.split(":")
    numbers = [number_in(figures) for figures in words]
    return (hand, *numbers)


def number_in(word):
    """The number that a word writes, or None."""
    if not word.isascii() or not word.isdigit() or len(word) > 60:
        return None
    if word[0] == "0" and word != "0":
        return None
    return int(word)
