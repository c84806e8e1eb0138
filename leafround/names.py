"""What a sheet's texts give and name, and where its cells lead."""

from leafround.sheets import Sheet, given_in, names_in, told_or_wrong


def givers(sheet):
    """For each name that is given the list of the cells that give it."""
    return Sheet(sheet).givers


def names_of(text):
    """The names of a cell of this text."""
    return names_in(told_or_wrong(text))


def given_by(text):
    """The name that a cell of this text gives, and whether it takes arguments, or None."""
    return given_in(told_or_wrong(text))


def leads(sheet):
    """For each cell the list of those that it leads to."""
    return Sheet(sheet).leads()
