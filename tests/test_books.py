"""Books on disks (points 2, 3, 25, 26, 27)."""

import random
import unittest

from leafround.books import Book
from leafround.disks import Disk
from leafround.errors import Fallen, OtherHand
from leafround.records import parsed, record

MOST = 10 ** 60 - 1


def logged(first, *records):
    return "".join(record(first + place, rows) for place, rows in enumerate(records))


class Case(unittest.TestCase):

    def stands(self, book, rows, written):
        self.assertEqual(repr((book.rows(), book.written())), repr((rows, written)))

    def laid(self, disk, picture, log):
        self.assertEqual((disk.picture(), disk.log()), (picture, log))

    def done(self, book, disk):
        """Each call is refused, and does nothing to its disk."""
        texts = (disk.whose(), disk.picture(), disk.log())
        for _ in range(2):
            for act in (book.rows, book.written, book.picture, lambda: book.write([]), lambda: book.write(["x"])):
                with self.assertRaises(Fallen) as caught:
                    act()
                self.assertEqual(vars(caught.exception), {})
        self.assertEqual((disk.whose(), disk.picture(), disk.log()), texts)


class Writes(Case):

    def test_an_empty_disk(self):
        disk = Disk()
        book = Book(disk, "a")
        self.stands(book, [], 0)
        self.laid(disk, "", "")

    def test_one_record_each(self):
        disk = Disk()
        book = Book(disk, "a")
        self.assertIsNone(book.write(["a b", "c"]))
        self.stands(book, ["a b", "c"], 1)
        self.laid(disk, "", logged(0, ["a b", "c"]))
        self.assertIsNone(book.write([" "]))
        self.stands(book, ["a b", "c", " "], 2)
        self.laid(disk, "", logged(0, ["a b", "c"], [" "]))

    def test_no_rows(self):
        disk = Disk()
        book = Book(disk, "a")
        self.assertIsNone(book.write([]))
        self.stands(book, [], 0)
        self.laid(disk, "", "")
        book.write(["a"])
        book.write([])
        self.stands(book, ["a"], 1)
        self.laid(disk, "", logged(0, ["a"]))
        book.write(["b"])
        self.stands(book, ["a", "b"], 2)

    def test_by_the_names_shown(self):
        disk = Disk()
        book = Book(hand="a", disk=disk)
        book.write(rows=["a"])
        self.stands(book, ["a"], 1)

    def test_like_rows(self):
        book = Book(Disk(), "a")
        book.write(["a", "a"])
        book.write(["a"])
        self.stands(book, ["a", "a", "a"], 2)

    def test_nothing_hangs_on_what_is_done_behind_a_call(self):
        disk = Disk()
        book = Book(disk, "a")
        rows = ["a", "b"]
        book.write(rows)
        self.assertEqual(rows, ["a", "b"])
        rows[0] = "z"
        rows.append("c")
        self.stands(book, ["a", "b"], 1)
        told = book.rows()
        told[0] = "y"
        told.clear()
        self.stands(book, ["a", "b"], 1)
        self.assertIsNot(book.rows(), book.rows())
        book.write(["c"])
        self.laid(disk, "", logged(0, ["a", "b"], ["c"]))
        book.picture()
        self.laid(disk, record(2, ["a", "b", "c"]), "")
        first = Book(disk, "a").rows()
        first.append("d")
        self.stands(Book(disk, "a"), ["a", "b", "c"], 2)


class Holds(Case):

    def test_another_hand(self):
        for begun in (Disk(hand="a"), Disk(hand="a", log="junk"), Disk(hand="a", log=logged(0, ["x"]) + "junk")):
            texts = (begun.picture(), begun.log())
            for hand in ("b", "aa", "abcdefgh"):
                with self.assertRaises(OtherHand) as caught:
                    Book(begun, hand)
                self.assertEqual(vars(caught.exception), {"hand": "a"})
                self.laid(begun, *texts)
                self.assertEqual(begun.whose(), "a")

    def test_who_held_it_holds_it_still(self):
        disk = Disk()
        book = Book(disk, "a")
        book.write(["x"])
        self.assertRaises(OtherHand, Book, disk, "b")
        self.stands(book, ["x"], 1)
        book.write(["y"])
        self.stands(book, ["x", "y"], 2)

    def test_one_that_takes_its_place(self):
        disk = Disk()
        first = Book(disk, "a")
        first.write(["x"])
        second = Book(disk, "a")
        self.done(first, disk)
        self.stands(second, ["x"], 1)
        second.write(["y"])
        self.done(first, disk)
        third = Book(disk, "a")
        self.done(first, disk)
        self.done(second, disk)
        self.stands(third, ["x", "y"], 2)

    def test_one_that_is_done_with_uses_up_no_fall(self):
        disk = Disk()
        first = Book(disk, "a")
        second = Book(disk, "a")
        disk.fall(3)
        self.done(first, disk)
        self.assertRaises(Fallen, second.write, ["y"])
        self.assertEqual(disk.log(), record(0, ["y"])[:3])

    def test_of_two_disks_with_like_texts(self):
        one = Disk()
        book = Book(one, "a")
        book.write(["x"])
        other = Disk(hand=one.whose(), picture=one.picture(), log=one.log())
        twin = Book(other, "a")
        twin.write(["y"])
        self.stands(book, ["x"], 1)
        self.stands(twin, ["x", "y"], 2)


class HandedIn(Case):

    def reads(self, picture, log, rows, written, left=None):
        """A disk with these texts: the book's rows and the log that is left; what is written goes on."""
        disk = Disk(picture=picture, log=log)
        book = Book(disk, "a")
        self.stands(book, rows, written)
        left = log if left is None else left
        self.laid(disk, picture, left)
        book.write(["new"])
        self.stands(book, rows + ["new"], written + 1)
        self.laid(disk, picture, left + record(written, ["new"]))
        self.stands(Book(disk, "a"), rows + ["new"], written + 1)

    def test_a_log_alone(self):
        self.reads("", logged(0, ["a"], ["b", "c"]), ["a", "b", "c"], 2)
        self.reads("", logged(7, ["a"], ["b", "c"]), ["a", "b", "c"], 9)
        self.reads("", logged(MOST - 9, ["a"]), ["a"], MOST - 8)

    def test_a_picture_alone(self):
        self.reads(record(3, ["a", "b"]), "", ["a", "b"], 3)
        self.reads(record(0, ["a"]), "", ["a"], 0)
        self.reads(record(MOST - 9, ["a"]), "", ["a"], MOST - 9)

    def test_both(self):
        picture = record(3, ["p", "q"])
        self.reads(picture, logged(3, ["a"], ["b"]), ["p", "q", "a", "b"], 5)
        self.reads(picture, logged(2, ["x"], ["a"], ["b"]), ["p", "q", "a", "b"], 5)
        self.reads(picture, logged(0, ["x"], ["y"], ["z"], ["a"]), ["p", "q", "a"], 4)
        self.reads(picture, logged(0, ["x"], ["y"], ["z"]), ["p", "q"], 3)
        self.reads(picture, logged(2, ["z"]), ["p", "q"], 3)
        self.reads(picture, logged(5, ["a"]), ["p", "q", "a"], 6)
        self.reads(record(0, ["p"]), logged(0, ["a"], ["b"]), ["p", "a", "b"], 2)

    def test_what_stands_behind_is_cut_away(self):
        log = logged(4, ["a"], ["b"])
        for behind in ("x", "\n", "6", record(6, ["c"])[:-1], record(7, ["c"]), record(5, ["c"]), log, "6 1:0=c\n"):
            self.reads("", log + behind, ["a", "b"], 6, log)
            self.reads(record(5, ["p"]), log + behind, ["p", "b"], 6, log)
        for whole in ("x", "\n", record(0, ["c"])[:-1], " " + log):
            self.reads("", whole, [], 0, "")
            self.reads(record(5, ["p"]), whole, ["p"], 5, "")

    def test_that_is_no_write(self):
        disk = Disk(log=logged(0, ["a"]) + "junk")
        disk.fall(2)
        book = Book(disk, "a")
        self.laid(disk, "", logged(0, ["a"]))
        self.stands(book, ["a"], 1)
        self.assertRaises(Fallen, book.write, ["b"])
        self.assertEqual(disk.log(), logged(0, ["a"]) + record(1, ["b"])[:2])

    def test_of_another_hand_nothing_is_cut(self):
        disk = Disk(hand="b", log="junk")
        self.assertRaises(OtherHand, Book, disk, "a")
        self.laid(disk, "", "junk")


class Falls(Case):

    def test_at_each_sign(self):
        for many in range(len(record(2, ["c", "d e"])) + 3):
            whole = many >= len(record(2, ["c", "d e"]))
            disk = Disk()
            book = Book(disk, "a")
            book.write(["a"])
            book.write(["b"])
            disk.fall(many)
            self.assertRaises(Fallen, book.write, ["c", "d e"])
            self.assertEqual(disk.log(), logged(0, ["a"], ["b"]) + record(2, ["c", "d e"])[:many])
            self.done(book, disk)
            anew = Book(disk, "a")
            self.done(book, disk)
            rows = ["a", "b"] + (["c", "d e"] if whole else [])
            self.stands(anew, rows, 3 if whole else 2)
            anew.write(["f"])
            self.stands(anew, rows + ["f"], 4 if whole else 3)
            self.assertEqual(parsed(disk.log())[2], len(disk.log()))

    def test_behind_a_picture(self):
        for many in (0, 1, 10 ** 9):
            disk = Disk()
            book = Book(disk, "a")
            book.write(["a"])
            book.picture()
            disk.fall(many)
            self.assertRaises(Fallen, book.write, ["b"])
            self.done(book, disk)
            self.stands(Book(disk, "a"), ["a", "b"] if many > 9 else ["a"], 2 if many > 9 else 1)

    def test_the_fall_of_one_book_s_disk_is_the_next_one_s(self):
        disk = Disk()
        first = Book(disk, "a")
        first.write(["a"])
        disk.fall(4)
        second = Book(disk, "a")
        self.stands(second, ["a"], 1)
        self.assertRaises(Fallen, second.write, ["b"])
        self.done(second, disk)
        self.done(first, disk)
        third = Book(disk, "a")
        third.write(["c"])
        self.stands(third, ["a", "c"], 2)


class Pictures(Case):

    def test_with_rows(self):
        disk = Disk()
        book = Book(disk, "a")
        book.write(["a"])
        book.write(["b", "c"])
        self.assertIsNone(book.picture())
        self.laid(disk, record(2, ["a", "b", "c"]), "")
        self.stands(book, ["a", "b", "c"], 2)
        book.write(["d"])
        self.laid(disk, record(2, ["a", "b", "c"]), record(2, ["d"]))
        self.stands(book, ["a", "b", "c", "d"], 3)
        self.stands(Book(disk, "a"), ["a", "b", "c", "d"], 3)

    def test_with_none(self):
        disk = Disk()
        book = Book(disk, "a")
        self.assertIsNone(book.picture())
        self.laid(disk, "", "")
        self.stands(book, [], 0)
        book.write(["a"])
        self.stands(Book(disk, "a"), ["a"], 1)

    def test_twice(self):
        disk = Disk()
        book = Book(disk, "a")
        book.write(["a"])
        book.picture()
        book.picture()
        self.laid(disk, record(1, ["a"]), "")
        book.write(["b"])
        book.picture()
        self.laid(disk, record(2, ["a", "b"]), "")
        self.stands(book, ["a", "b"], 2)

    def test_no_fall_cuts_it(self):
        for many in (0, 3, 10 ** 9):
            disk = Disk()
            book = Book(disk, "a")
            book.write(["a"])
            disk.fall(many)
            book.picture()
            self.laid(disk, record(1, ["a"]), "")
            self.stands(book, ["a"], 1)
            self.assertRaises(Fallen, book.write, ["b"])
            self.laid(disk, record(1, ["a"]), record(1, ["b"])[:many])

    def test_of_a_disk_handed_in(self):
        disk = Disk(hand="a", picture=record(3, ["p"]), log=logged(2, ["x"], ["y"], ["z"]) + "junk")
        book = Book(disk, "a")
        book.picture()
        self.laid(disk, record(5, ["p", "y", "z"]), "")
        self.stands(Book(disk, "a"), ["p", "y", "z"], 5)


class ByChance(Case):

    def test_a_book_has_the_rows_of_all_writes_that_stand(self):
        chance = random.Random(261)
        for _ in range(150):
            disk = Disk()
            book, rows, written, fall = Book(disk, "a"), [], 0, None
            for number in range(25):
                roll = chance.random()
                if roll < 0.5:
                    more = ["%d.%d" % (number, place) for place in range(chance.randint(0, 3))]
                    whole = record(written, more) if more else ""
                    if more and fall is not None:
                        self.assertRaises(Fallen, book.write, more)
                        self.done(book, disk)
                        book = Book(disk, "a")
                        if fall >= len(whole):
                            rows, written = rows + more, written + 1
                        fall = None
                    else:
                        book.write(more)
                        rows, written = rows + more, written + bool(more)
                elif roll < 0.65:
                    book.picture()
                    self.laid(disk, record(written, rows) if rows else "", "")
                elif roll < 0.8:
                    fall = chance.choice([0, 1, 5, 8, 20, 100])
                    disk.fall(fall)
                elif roll < 0.9:
                    old, book = book, Book(disk, "a")
                    self.done(old, disk)
                else:
                    self.assertRaises(OtherHand, Book, disk, "b")
                self.stands(book, rows, written)
                self.stands(Book(Disk(picture=disk.picture(), log=disk.log()), "c"), rows, written)


if __name__ == "__main__":
    unittest.main()
