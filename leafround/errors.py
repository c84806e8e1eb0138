"""Every refusal of the program, each with the one field that says what was refused."""


class NoteError(ValueError):
    """Any refusal."""


class NoDeed(NoteError):
    """The thing at this place of a list is no deed by its form."""

    def __init__(self, place):
        super().__init__("no deed stands at this place")
        self.place = place


class NoAct(NoteError):
    """An act can't be told; the word says why."""

    def __init__(self, word):
        super().__init__("no such act can be told")
        self.word = word


class NoRow(NoteError):
    """A row can't be read."""

    def __init__(self, row):
        super().__init__("this row can't be read")
        self.row = row


class NoCell(NoteError):
    """No such cell was made, or it isn't shown."""

    def __init__(self, cell):
        super().__init__("there is no such cell")
        self.cell = cell


class NoSource(NoteError):
    """A text is no cell's text; the number is that of the sign where it fails."""

    def __init__(self, at):
        super().__init__("this is no cell's text")
        self.at = at


class NoWhy(NoteError):
    """An answer has no whys; the word is its fault's."""

    def __init__(self, word):
        super().__init__("this answer has no whys")
        self.word = word


class OtherHand(NoteError):
    """A disk belongs to another hand."""

    def __init__(self, hand):
        super().__init__("the disk belongs to another hand")
        self.hand = hand


class Fallen(NoteError):
    """A disk fell, or its book is done with."""


class NoParcel(NoteError):
    """A thing is no parcel, or comes from the house itself."""

    def __init__(self, thing):
        super().__init__("this is no parcel for this house")
        self.thing = thing


class NoMoment(NoteError):
    """A thing is no whole moment."""

    def __init__(self, thing):
        super().__init__("this is no whole moment")
        self.thing = thing


class NoName(NoteError):
    """No deed of this name was taken in."""

    def __init__(self, name):
        super().__init__("no deed of this name was taken in")
        self.name = name


class NoHand(NoteError):
    """A thing is no hand, or the house's own one."""

    def __init__(self, thing):
        super().__init__("this is no hand that fits here")
        self.thing = thing


class Refused(NoteError):
    """Several acts are refused; the place is that of the first refused one."""

    def __init__(self, place):
        super().__init__("the act at this place is refused")
        self.place = place


class NoPatch(NoteError):
    """A patch doesn't fit; the number is that of the row that fails."""

    def __init__(self, row):
        super().__init__("the patch doesn't fit these lines")
        self.row = row


class NoHouse(NoteError):
    """No such house stands, or one stands already."""

    def __init__(self, hand):
        super().__init__("no house of this hand can be had")
        self.hand = hand
