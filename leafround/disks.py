"""A disk: whose it is, its picture and its log, and the falls that it is told."""

from leafround.errors import Fallen, OtherHand


class Disk:
    """Texts that a book keeps, and that stay where the book falls."""

    def __init__(self, *, hand=None, picture="", log=""):
        self._hand = hand
        self._picture = picture
        self._log = log
        # How many signs stand of the next record, or None where no fall is told.
        self._fall = None
        # The number of the book that holds the disk; behind a fall it is that of none.
        self._holder = 0

    def whose(self):
        """The hand of the disk, or None."""
        return self._hand

    def picture(self):
        return self._picture

    def log(self):
        return self._log

    def fall(self, signs):
        """Let the disk fall when so many signs of the next record stand."""
        self._fall = signs

    def hold(self, hand):
        """Let a new book of this hand hold the disk; told is the book's number."""
        if self._hand is not None and self._hand != hand:
            raise OtherHand(self._hand)
        self._hand = hand
        self._holder += 1
        return self._holder

    def holder(self):
        """The number of the book that holds the disk."""
        return self._holder

    def lay(self, picture, log):
        """Let this picture and this log stand, at once."""
        self._picture = picture
        self._log = log

    def write(self, record):
        """Let a record stand behind the log, as much of it as a fall leaves."""
        signs, self._fall = self._fall, None
        self._log += record if signs is None else record[:signs]
        if signs is not None:
            self._holder += 1
            raise Fallen()
