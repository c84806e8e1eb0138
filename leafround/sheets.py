"""A sheet whose texts are told once: what its cells give and name, and where they lead."""

from leafround.errors import NoSource
from leafround.sources import free, told_as


def told_or_wrong(text):
    """What a text is told as, or ("wrong", at) where it fails."""
    try:
        return told_as(text)
    except NoSource as refused:
        return ("wrong", refused.at)


def is_tree(told):
    return told[0] == "gives" or told[0] == "shows"


def given_in(told):
    """The name that a told text gives, and whether it takes arguments, or None."""
    return (told[1], told[2] != ()) if told[0] == "gives" else None


def names_in(told):
    """The free names of a told text's tree."""
    if not is_tree(told):
        return []
    return free(told[-1], told[2] if told[0] == "gives" else ())


class Sheet:
    """The cells of a sheet with their texts, told."""

    def __init__(self, sheet):
        self.texts = {cell: text for cell, text in sheet}
        self.sources = {cell: told_or_wrong(self.texts[cell]) for cell in self.texts}
        # For each name that is given the cells that give it, by the sheet's order.
        self.givers = {}
        for cell in self.sources:
            given = given_in(self.sources[cell])
            if given is not None:
                self.givers.setdefault(given[0], []).append(cell)

    def takes_arguments(self, cell):
        given = given_in(self.sources[cell])
        return given is not None and given[1]

    def leads(self):
        """For each cell those that it leads to, each once, as the names stand."""
        return {cell: self._led_to(cell) for cell in self.sources}

    def _led_to(self, cell):
        found = {}
        for name in names_in(self.sources[cell]):
            cells = self.givers.get(name, [])
            if len(cells) == 1:
                found[cells[0]] = True
        return list(found)
