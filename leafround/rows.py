"""Rows of things put into them by marks, so that they stand alike whatever comes first."""


def plain_row(puts):
    """The names of puts handed in in any order, as they stand."""
    behind_each = followers(puts)
    names = []
    waiting = list(behind_each.get(None, []))
    while waiting:
        _, name = waiting.pop()
        names.append(name)
        waiting.extend(behind_each.get(name, []))
    return names


def followers(puts):
    """For each name, and None, the (mark, name) put right behind it, by rising marks."""
    found = {}
    for mark, name, behind in single_puts(puts):
        found.setdefault(behind, []).append((mark, name))
    return {behind: sorted(found[behind]) for behind in found}


def single_puts(puts):
    """Puts of one name each: of several names each other one is put behind the one before it."""
    singles = []
    for mark, names, behind in puts:
        for name in names:
            singles.append((mark, name, behind))
            behind = name
    return singles


def barred(puts, names):
    """The first of these names, in their order, that doesn't stand as it was put, or None."""
    placed = {name: (mark, behind) for mark, name, behind in single_puts(puts)}
    # Of the names gone by, those that no later one of a lesser mark has passed.
    near = []
    for name in names:
        mark, behind = placed[name]
        while near and placed[near[-1]][0] > mark:
            near.pop()
        # Only greater marks may stand between, and what it was put behind has none such.
        if (near[-1] if near else None) != behind:
            return name
        near.append(name)
    return None


class Row:
    """A row into which things are put one after another, each behind what it is put behind."""

    def __init__(self):
        # The name behind each name; None stands for the beginning, and for the end.
        self._next = {None: None}
        self._marks = {}

    def put(self, mark, names, behind):
        ahead = behind
        while self._next[ahead] is not None and self._marks[self._next[ahead]] > mark:
            ahead = self._next[ahead]
        last = self._next[ahead]
        for name in names:
            self._next[ahead] = name
            self._marks[name] = mark
            ahead = name
        self._next[ahead] = last

    def names(self):
        told = []
        name = self._next[None]
        while name is not None:
            told.append(name)
            name = self._next[name]
        return told

    def spot(self, name):
        """The number at which a name stands, or None."""
        names = self.names()
        return names.index(name) if name in names else None

    def __len__(self):
        return len(self._marks)
