"""What is told of moments: their differences, what broke where two were joined, the acts that lead back."""

from leafround.answers import is_fault
from leafround.deeds import mark_of, name_of
from leafround.kept import fresh, settled
from leafround.notebook import off_table
from leafround.views import stands_of


def differences(one, other):
    """The (cell, one, other) of the cells that two notebooks show unlike, by cells; each (parent, place, text)."""
    here, there = stands_of(one), stands_of(other)
    cells = sorted({**here, **there})
    return [(cell, here.get(cell), there.get(cell)) for cell in cells if here.get(cell) != there.get(cell)]


def runs_of(signs):
    """Shown signs as (hand, k, text), those beside one another of one deed together."""
    told = []
    for (hand, many, _), sign in signs:
        if told and told[-1][:2] == (hand, many):
            told[-1] = (hand, many, told[-1][2] + sign)
        else:
            told.append((hand, many, sign))
    return told


def touched(deed, deeds):
    """The cell that a deed touches; deeds a dict by names."""
    act = deed[4]
    if act[0] == "off" or act[0] == "on":
        return touched(deeds[act[1]], deeds)
    if act[0] == "cell":
        return name_of(deed)
    if act[0] == "strike":
        return touched(deeds[act[1][0][:2]], deeds)
    return act[1]


def unaware_pairs(cell, deeds):
    """The pairs of names of deeds that touch a cell unaware of one another; deeds a dict by names."""
    near = [deed for deed in sorted(list(deeds.values()), key=mark_of) if touched(deed, deeds) == cell]
    pairs = []
    for number, deed in enumerate(near):
        for other in near[number + 1:]:
            if deed[0] != other[0] and not has_seen(deed, other) and not has_seen(other, deed):
                pairs.append((name_of(deed), name_of(other)))
    return pairs


def has_seen(deed, other):
    return other[1] < dict(deed[3]).get(other[0], 0)


def broken_cells(both, one, other):
    """The cells of a sheet whose answer is a fault of their own, but at neither of two others, with both causes."""
    here, first, second = [settled(sheet, dict(fresh(sheet))) for sheet in (both, one, other)]
    told = []
    for cell in sorted(here.answers):
        if fails(here, cell) and not fails(first, cell) and not fails(second, cell):
            told.append((cell, here.answers[cell], cause(here, first, cell), cause(here, second, cell)))
    return told


def fails(settling, cell):
    """Whether a cell's answer is a fault of any word but from."""
    answer = settling.answers.get(cell)
    return answer is not None and is_fault(answer) and answer[1] != "from"


def is_ringed(settling, cell):
    return settling.answers.get(cell) == ("fault", "ring", cell)


def cause(here, there, cell):
    """What is otherwise there, so that a cell fails here alone."""
    if cell not in there.laid.texts:
        return ("unseen",)
    if there.laid.texts[cell] != here.laid.texts[cell]:
        return ("text",)
    if is_ringed(here, cell) != is_ringed(there, cell):
        return ("ring",)
    notes = here.read(cell)[2]
    found = [there.note(note[0]) for note in notes]
    # One is otherwise: of like notes come like answers.
    number = min([number for number, note in enumerate(notes) if found[number] != note])
    return ("read", number, found[number])


def acts_back(deeds, then):
    """The acts that lead from these deeds to those of a moment, by the names of the deeds that they name."""
    off_now, off_then = off_table(deeds), off_table(then)
    in_it = {name_of(deed): True for deed in then}
    acts = []
    for deed in sorted(deeds, key=name_of):
        name, word = name_of(deed), deed[4][0]
        if word == "off" or word == "on":
            continue
        is_gone = name not in in_it or name in off_then
        if is_gone and name not in off_now:
            acts.append(("off", name))
        if not is_gone and name in off_now:
            acts.append(("on", name))
    return acts
