"""A book that keeps rows on a disk, so that what is written stands wherever the disk falls."""

from leafround.errors import Fallen
from leafround.records import parsed, record


class Book:
    """The rows of a disk's records, and of those that are written now."""

    def __init__(self, disk, hand):
        self._number = disk.hold(hand)
        self._disk = disk
        pictured, records, _ = parsed(disk.picture())
        self._written = 0 if pictured is None else pictured
        self._rows = [row for rows in records for row in rows]
        self._read_log()

    def write(self, rows):
        """Write rows as one record; the book has them only once it stands."""
        self.check()
        if len(rows) > 0:
            self._disk.write(record(self._written, rows))
            self._written += 1
            self._rows.extend(rows)

    def rows(self):
        self.check()
        return list(self._rows)

    def written(self):
        """How many records were written on the disk."""
        self.check()
        return self._written

    def picture(self):
        """Put the rows of the log into the picture."""
        self.check()
        picture = record(self._written, self._rows) if self._rows else ""
        self._disk.lay(picture, "")

    def check(self):
        """Refuse where the book is done with, or another one holds the disk."""
        if self._disk.holder() != self._number:
            raise Fallen()

    def _read_log(self):
        """Take the rows that the picture hasn't, and cut away what is no whole record."""
        picture, log = self._disk.picture(), self._disk.log()
        first, records, at = parsed(log)
        self._disk.lay(picture, log[:at])
        if first is None:
            return
        for number, rows in enumerate(records, start=first):
            # The picture has the rows of all records ahead of its own number.
            if number >= self._written:
                self._rows.extend(rows)
                self._written = number + 1
