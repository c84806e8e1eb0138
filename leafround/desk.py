"""A desk at which houses are asked by rows of words."""

from leafround.asking import asked_in
from leafround.disks import Disk
from leafround.errors import NoHouse, NoRow
from leafround.forms import is_hand
from leafround.house import House
from leafround.pages import written
from leafround.texts import shown, shown_name


def lines_or_none(lines):
    """Lines as one text; an only line may be empty, and is one still."""
    return "\n".join(lines) if lines else "none"


# Each of these tells what a house answers to a row, as a text.

def told_name(house, act):
    return shown_name(house.tell(act))


def told_names(house, acts):
    return lines_or_none([shown_name(name) for name in house.several(acts)])


def page_text(house, width, top, rows):
    return lines_or_none(house.page(width=width, top=top, rows=rows))


def moment_text(house, moment, width):
    return lines_or_none(house.page(at=moment, width=width))


def answer_text(house, cell):
    answer = dict(house.answers()).get(cell)
    return "none" if answer is None else written(answer, cell)


def who_text(house, cell):
    names = [shown_name((hand, many)) for hand, many, text in house.wrote(cell) for _ in text]
    return " ".join(names) if names else "none"


def deeds_text(house):
    return lines_or_none([shown(deed) for deed in house.deeds()])


def heard_text(house, deed):
    """What is told of a deed; others that no longer wait are told behind it."""
    row = house.take([deed])[0]
    if row[1] == "waits":
        return "waits " + shown_name(row[2])
    return "wrong " + row[2] if row[1] == "wrong" else row[1]


ANSWERS = {
    "tell": told_name, "all": told_names, "page": page_text, "at": moment_text, "answer": answer_text,
    "who": who_text, "deeds": deeds_text, "hear": heard_text,
}


class Desk:
    """Houses, each by its hand, with its disk."""

    def __init__(self):
        self._houses = {}
        self._disks = {}

    def say(self, row):
        """What a row tells, as a text."""
        if not isinstance(row, str):
            raise NoRow(row)
        hand, _, rest = row.partition(" ")
        # A house may be called house; its own rows have more words, or one that is no hand.
        if hand == "house" and is_hand(rest):
            return self._begin(rest)
        asked = asked_in(rest) if is_hand(hand) else None
        if asked is None:
            raise NoRow(row)
        word, parts = asked
        house = self._house(hand)
        if word == "asks":
            return self._ask(house, *parts)
        if word == "fall":
            self._disks[hand].fall(*parts)
            return "ok"
        if word == "rise":
            return self._rise(hand)
        answer = ANSWERS[word]
        return answer(house, *parts)

    def _house(self, hand):
        if hand not in self._houses:
            raise NoHouse(hand)
        return self._houses[hand]

    def _begin(self, hand):
        """Let a new house of an empty disk stand."""
        if hand in self._houses:
            raise NoHouse(hand)
        self._disks[hand] = Disk()
        self._rise(hand)
        return "ok"

    def _rise(self, hand):
        """Make a house anew of its disk; how many deeds it has."""
        self._houses[hand] = House(hand, disk=self._disks[hand])
        return str(len(self._houses[hand]))

    def _ask(self, house, other):
        """How many deeds come in by the other house's give for this one's have."""
        give = self._house(other).hear(house.have())
        rows = [] if give is None else house.hear(give)
        return str(len([row for row in rows if row[1] == "new"]))
