"""Disks: their hand, their texts, their falls (points 2, 3, 26)."""

import unittest

from leafround.books import Book
from leafround.disks import Disk
from leafround.errors import Fallen, NoteError
from leafround.records import record

ONE = record(0, ["a b", "c"])
TWO = record(1, ["d"])


def texts(disk):
    return (disk.whose(), disk.picture(), disk.log())


class Disks(unittest.TestCase):

    def test_at_first(self):
        self.assertEqual(texts(Disk()), (None, "", ""))

    def test_handed_in_by_name(self):
        self.assertEqual(texts(Disk(hand="a")), ("a", "", ""))
        self.assertEqual(texts(Disk(picture=ONE)), (None, ONE, ""))
        self.assertEqual(texts(Disk(log=ONE + "x")), (None, "", ONE + "x"))
        self.assertEqual(texts(Disk(log=TWO, picture=ONE, hand="abcdefgh")), ("abcdefgh", ONE, TWO))
        self.assertRaises(TypeError, Disk, "a")

    def test_the_hand_stands_from_the_first_book_on(self):
        disk = Disk()
        Book(disk, "b")
        self.assertEqual(disk.whose(), "b")
        self.assertEqual(texts(disk), ("b", "", ""))

    def test_a_fall_tells_nothing(self):
        disk = Disk(hand="a", log=ONE)
        self.assertIsNone(disk.fall(3))
        self.assertIsNone(disk.fall(signs=0))
        self.assertEqual(texts(disk), ("a", "", ONE))

    def test_disks_are_apart(self):
        one, other = Disk(), Disk()
        one.fall(1)
        Book(one, "a")
        book = Book(other, "b")
        book.write(["x"])
        self.assertEqual(texts(one), ("a", "", ""))
        self.assertEqual(texts(other), ("b", "", record(0, ["x"])))


class Falls(unittest.TestCase):

    def falls(self, *signs, rows=("a b", "c"), due):
        """Told these falls, just so many signs of the next record stand."""
        disk = Disk(hand="a", log=TWO)
        book = Book(disk, "a")
        for many in signs:
            disk.fall(many)
        with self.assertRaises(Fallen) as caught:
            book.write(list(rows))
        self.assertIsInstance(caught.exception, NoteError)
        self.assertEqual(disk.log(), TWO + record(2, list(rows))[:due])

    def test_at_each_sign(self):
        for many in range(len(record(2, ["a b", "c"])) + 1):
            self.falls(many, due=many)

    def test_for_no_signs(self):
        self.falls(0, due=0)

    def test_for_more_signs_than_the_record_has(self):
        whole = len(record(2, ["a b", "c"]))
        self.falls(whole, due=whole)
        self.falls(whole + 1, due=whole)
        self.falls(10 ** 6, due=whole)
        self.falls(10 ** 59, due=whole)

    def test_told_twice_the_last_counts(self):
        self.falls(5, 2, due=2)
        self.falls(2, 5, due=5)
        self.falls(0, 3, due=3)
        self.falls(7, 7, 0, due=0)

    def test_used_up_by_one_record(self):
        for many in (0, 3, 10 ** 6):
            disk = Disk()
            disk.fall(many)
            self.assertRaises(Fallen, Book(disk, "a").write, ["a"])
            book = Book(disk, "a")
            book.write(["b"])
            book.write(["c"])
            self.assertEqual(book.rows(), (["a"] if many > 3 else []) + ["b", "c"])

    def test_it_waits_for_the_next_record(self):
        disk = Disk()
        first = Book(disk, "a")
        first.write(["a"])
        disk.fall(2)
        first.write([])
        self.assertEqual((first.rows(), first.written()), (["a"], 1))
        first.picture()
        self.assertEqual(texts(disk), ("a", record(1, ["a"]), ""))
        second = Book(disk, "a")
        self.assertRaises(Fallen, second.write, ["b"])
        self.assertEqual(texts(disk), ("a", record(1, ["a"]), record(1, ["b"])[:2]))

    def test_told_before_there_is_a_book(self):
        disk = Disk()
        disk.fall(4)
        book = Book(disk, "a")
        self.assertRaises(Fallen, book.write, ["b"])
        self.assertEqual(disk.log(), record(0, ["b"])[:4])


if __name__ == "__main__":
    unittest.main()
