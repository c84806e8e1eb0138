"""What hands, names, signs and acts look like, asked of anything; and likeness, asked of anything."""


def is_number(thing):
    """Whether a thing is a whole number from 0 on (a truth is none)."""
    return isinstance(thing, int) and not isinstance(thing, bool) and thing >= 0


def is_hand(thing):
    if not isinstance(thing, str) or not 1 <= len(thing) <= 8:
        return False
    return all(["a" <= letter <= "z" for letter in thing])


def is_name(thing):
    """Whether a thing is a name of a deed, a cell or a stand."""
    if not isinstance(thing, tuple) or len(thing) != 2:
        return False
    return is_hand(thing[0]) and is_number(thing[1])


def is_sign(thing):
    """Whether a thing is a name of a sign."""
    if not isinstance(thing, tuple) or len(thing) != 3:
        return False
    return is_hand(thing[0]) and is_number(thing[1]) and is_number(thing[2])


def is_name_or_none(thing):
    return thing is None or is_name(thing)


def is_sign_or_none(thing):
    return thing is None or is_sign(thing)


def is_written(thing):
    """Whether a thing is a text that one deed can write."""
    if not isinstance(thing, str) or not 1 <= len(thing) <= 60:
        return False
    return all([" " <= sign <= "~" for sign in thing])


def is_struck(thing):
    """Whether a thing is a tuple of signs that one deed can strike."""
    if not isinstance(thing, tuple) or not 1 <= len(thing) <= 60:
        return False
    return all([is_sign(sign) for sign in thing]) and is_rising(thing)


def is_rising(things):
    return all([one < other for one, other in zip(things, things[1:])])


def is_seen(thing):
    """Whether a thing is a tuple of (hand, many), hands rising."""
    if not isinstance(thing, tuple):
        return False
    if not all([is_name(pair) and pair[1] >= 1 for pair in thing]):
        return False
    return is_rising([pair[0] for pair in thing])


ACTS = {
    "cell": (is_name_or_none, is_name_or_none),
    "place": (is_name, is_name_or_none, is_name_or_none),
    "write": (is_name, is_sign_or_none, is_written),
    "strike": (is_struck,),
    "drop": (is_name,),
    "off": (is_name,),
    "on": (is_name,),
}


def is_act(thing):
    if not isinstance(thing, tuple) or len(thing) == 0 or not isinstance(thing[0], str):
        return False
    forms = ACTS.get(thing[0], ())
    if len(forms) == 0 or len(thing) != 1 + len(forms):
        return False
    for form, part in zip(forms, thing[1:]):
        if not form(part):
            return False
    return True


def is_like(thing, due):
    """Whether anything is what is due, by its kinds too: no truth is like a number, no list like a tuple."""
    if due is None:
        return thing is None
    if isinstance(due, bool):
        return isinstance(thing, bool) and thing == due
    if isinstance(due, int):
        return isinstance(thing, int) and not isinstance(thing, bool) and thing == due
    if isinstance(due, str):
        return isinstance(thing, str) and thing == due
    if isinstance(due, tuple) and not isinstance(thing, tuple):
        return False
    if isinstance(due, list) and not isinstance(thing, list):
        return False
    return len(thing) == len(due) and all([is_like(one, other) for one, other in zip(thing, due)])
