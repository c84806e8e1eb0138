"""Rows asked of a desk: what each asks of a house, told by its form alone."""

from leafround.forms import is_act, is_hand, is_name
from leafround.parcels import is_table
from leafround.texts import act_in, deed_in, name_in, number_in, seen_in

ACTS_MOST = 60
WIDTH_LEAST = 20
WIDTH_MOST = 120


def asked_in(text):
    """What the words behind a house's hand ask: a word and a tuple of what it needs, or None of others."""
    act = act_in(text)
    if is_act(act):
        return ("tell", (act,))
    head, *lines = text.split("\n")
    if head == "all":
        parts = acts_in(lines)
        return None if parts is None else ("all", parts)
    word, *words = text.split(" ")
    if word not in FORMS:
        return None
    form = FORMS[word]
    parts = form(words)
    return None if parts is None else (word, parts)


# Each of these tells what words behind the first one need, as a tuple, or None where they don't fit.

def acts_in(lines):
    acts = [act_in(line) for line in lines]
    if not 1 <= len(acts) <= ACTS_MOST or not all([is_act(act) for act in acts]):
        return None
    return (acts,)


def page_in(words):
    """A width, and perhaps a top and rows."""
    numbers = [number_in(word) for word in words]
    if len(numbers) not in (1, 3) or None in numbers or not WIDTH_LEAST <= numbers[0] <= WIDTH_MOST:
        return None
    if len(numbers) == 1:
        return (numbers[0], 0, None)
    return tuple(numbers) if numbers[2] > 0 else None


def moment_in(words):
    """A moment, and the width of its page."""
    if len(words) != 3 or words[1] != "page":
        return None
    moment = seen_in(words[0])
    page = page_in(words[2:])
    return (moment, page[0]) if is_table(moment) and page is not None else None


def one_name_in(words):
    names = [name_in(word) for word in words]
    return tuple(names) if len(names) == 1 and is_name(names[0]) else None


def one_hand_in(words):
    return tuple(words) if len(words) == 1 and is_hand(words[0]) else None


def one_number_in(words):
    numbers = [number_in(word) for word in words]
    return tuple(numbers) if len(numbers) == 1 and numbers[0] is not None else None


def one_deed_in(words):
    # A deed's text may hold blanks, several too.
    deed = deed_in(" ".join(words))
    return None if deed is None else (deed,)


def nothing_in(words):
    return None if words else ()


FORMS = {
    "page": page_in, "at": moment_in, "answer": one_name_in, "who": one_name_in, "deeds": nothing_in,
    "hear": one_deed_in, "asks": one_hand_in, "fall": one_number_in, "rise": nothing_in,
}
