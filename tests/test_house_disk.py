"""Houses and their disks: records, falls, houses made anew (points 3, 10, 25, 26, 27, 29, 31)."""

import random
import unittest

from makers import A0, A1, A2, B0, B1, B2, ODD, SMALL, deed, mark, name
from plainhouse import PlainHouse, house_act, row_of_words

from leafround.books import Book
from leafround.disks import Disk
from leafround.errors import Fallen, NoHand, OtherHand
from leafround.house import House
from leafround.records import parsed, record

CELL = ("cell", None, None)


def rows(*deeds):
    return [row_of_words(one) for one in sorted(deeds, key=mark)]


def calls_of(house):
    """Every call of a house, each with things that it would refuse, too."""
    cell, now = ("a", 0), (("a", 1),)
    return [lambda: house.tell(CELL), lambda: house.tell(None), lambda: house.several([CELL]), lambda: house.several([]), lambda: house.several([None]), lambda: house.take([]),
            lambda: house.take([A1]), lambda: house.take([None]), lambda: house.hear(("have", "q", ())), lambda: house.hear(None), lambda: house.hear(("give", "q", (A0,))), house.have,
            lambda: house.known("q"), lambda: house.known(5), lambda: house.offer("q"), lambda: house.offer(None), house.now, house.deeds, house.waiting, house.cells, lambda: house.cells(at=now),
            lambda: house.cells(at=5), house.answers, lambda: house.answers(at=()), lambda: house.answers(at=5), house.read, house.page, lambda: house.page(at=now), lambda: house.page(at=5),
            house.papers, lambda: house.papers(at=now), lambda: house.papers(at=5), lambda: house.moment_of(cell), lambda: house.moment_of(5), lambda: house.is_whole(()), lambda: house.is_whole(5),
            lambda: house.difference((), ()), lambda: house.difference(5, ()), lambda: house.wrote(cell), lambda: house.wrote(5, at=5), lambda: house.unaware(cell), lambda: house.unaware(5),
            lambda: house.broken((), ()), lambda: house.broken(5, 5), lambda: house.back(()), lambda: house.back(5)]


class Case(unittest.TestCase):
    maxDiff = None

    def done(self, house, many):
        """Each call is refused, but len and == tell on; nothing is done."""
        for call in calls_of(house):
            with self.assertRaises(Fallen) as caught:
                call()
            self.assertEqual(vars(caught.exception), {})
        self.assertEqual(len(house), many)
        self.assertTrue(house == house)


class Records(Case):

    def test_one_for_each_deed_told(self):
        disk = Disk()
        house = House("a", disk=disk)
        self.assertEqual((disk.whose(), disk.picture(), disk.log()), ("a", "", ""))
        house.tell(CELL)
        self.assertEqual(disk.log(), record(0, ["a 0 0 - cell - -"]))
        house.tell(("write", ("a", 0), None, "one  "))
        self.assertEqual(parsed(disk.log()), (0, [["a 0 0 - cell - -"], ["a 1 1 a:1 write a:0 - one  "]], len(disk.log())))

    def test_one_for_several(self):
        disk = Disk()
        house = House("a", disk=disk)
        house.several([CELL, ("write", ("a", 0), None, "one"), ("place", ("a", 0), None, ("a", 0))])
        self.assertEqual(disk.log(), record(0, rows(A0, A1, A2)))
        house.several([])
        self.assertEqual(disk.log(), record(0, rows(A0, A1, A2)))

    def test_one_for_what_is_taken_in_by_a_call(self):
        disk = Disk()
        house = House("z", disk=disk)
        house.take([B1, A1])
        self.assertEqual(disk.log(), "")
        wrong = deed("c", 0, 5, [], *CELL)
        house.take([wrong, A0, wrong])
        self.assertEqual(disk.log(), record(0, rows(A0, A1)))
        house.hear(("give", "b", (B0, A0, A1, B0)))
        self.assertEqual(disk.log(), record(0, rows(A0, A1)) + record(1, rows(B0, B1)))
        house.hear(("have", "b", ()))
        house.hear(("give", "b", (B0,)))
        house.take([])
        house.page()
        self.assertEqual(disk.log(), record(0, rows(A0, A1)) + record(1, rows(B0, B1)))

    def test_by_rising_marks(self):
        disk = Disk()
        House("z", disk=disk).take([B2, B1, B0, A2, A1, A0])
        self.assertEqual(disk.log(), record(0, ["a 0 0 - cell - -", "a 1 1 a:1 write a:0 - one", "a 2 2 a:2 place a:0 - a:0", "b 0 2 a:2 cell a:0 -", "b 1 3 a:2,b:1 write b:0 - two!",
                                                "b 2 4 a:2,b:2 strike a:1:0 a:1:2"]))


class MadeAnew(Case):

    def test_of_whole_records(self):
        disk = Disk()
        first = House("z", disk=disk)
        first.take(SMALL[:4])
        first.take(SMALL[4:])
        page = first.page()
        anew = House("z", disk=disk)
        self.assertEqual((anew.deeds(), anew.now(), len(anew)), (sorted(SMALL, key=mark), (("a", 3), ("b", 4)), 7))
        self.assertEqual((anew, anew.page()), (first, page))
        self.done(first, 7)

    def test_none_wait_nothing_is_read_nothing_is_known(self):
        disk = Disk()
        first = House("z", disk=disk)
        first.take([A0, B0])
        first.hear(("have", "b", (("a", 1),)))
        first.page()
        anew = House("z", disk=disk)
        self.assertEqual((anew.waiting(), anew.read(), anew.known("b"), len(anew)), ([], [], (), 1))
        anew.page()
        self.assertEqual(anew.read(), [(("a", 0), "read", ("new",))])
        self.assertEqual(anew.take([A1]), [(("a", 1), "new")])

    def test_it_goes_on(self):
        disk = Disk()
        House("a", disk=disk).several([CELL, ("write", ("a", 0), None, "one")])
        anew = House("a", disk=disk)
        self.assertEqual(anew.tell(("place", ("a", 0), None, ("a", 0))), ("a", 2))
        self.assertEqual(anew.take([A0, A2, deed("a", 3, 3, [("a", 3)], *CELL)]), [(("a", 0), "had"), (("a", 2), "had"), (("a", 3), "own")])
        self.assertEqual(House("a", disk=disk).deeds(), [A0, A1, A2])
        self.assertEqual(disk.log(), record(0, rows(A0, A1)) + record(1, rows(A2)))

    def test_behind_a_picture(self):
        disk = Disk()
        House("z", disk=disk).take(SMALL[:3])
        house = House("z", disk=disk)
        Book(disk, "z").picture()
        self.done(house, 3)
        house = House("z", disk=disk)
        house.take(SMALL[3:])
        self.assertEqual((disk.picture(), disk.log()), (record(1, rows(*SMALL[:3])), record(1, rows(*SMALL[3:]))))
        self.assertEqual(House("z", disk=disk).deeds(), sorted(SMALL, key=mark))

    def test_of_another_hand_s_disk(self):
        disk = Disk()
        first = House("a", disk=disk)
        first.tell(CELL)
        with self.assertRaises(OtherHand) as caught:
            House("b", disk=disk)
        self.assertEqual(vars(caught.exception), {"hand": "a"})
        # Who holds it holds it still.
        self.assertEqual(first.tell(CELL), ("a", 1))
        with self.assertRaises(OtherHand):
            House("b", disk=Disk(hand="a"))
        with self.assertRaises(NoHand):
            House("A", disk=disk)
        self.assertEqual(len(first.deeds()), 2)

    def test_of_texts_from_another_house(self):
        disk = Disk()
        first = House("a", disk=disk)
        first.several([CELL, ("write", ("a", 0), None, "one")])
        for hand in ("b", "a"):
            other = House(hand, disk=Disk(picture=disk.picture(), log=disk.log()))
            self.assertEqual((other.deeds(), other), ([A0, A1], first))
            self.assertEqual(other.tell(CELL), ("b", 0) if hand == "b" else ("a", 2))
        self.assertEqual(first.deeds(), [A0, A1])

    def test_junk_behind_the_records(self):
        disk = Disk(hand="a", log=record(3, rows(A0)) + record(4, rows(A1)) + record(6, rows(A2)))
        house = House("a", disk=disk)
        self.assertEqual((house.deeds(), disk.log()), ([A0, A1], record(3, rows(A0)) + record(4, rows(A1))))

    def test_a_house_that_is_done_with_tells_len_and_likeness(self):
        disk = Disk()
        first = House("a", disk=disk)
        first.tell(CELL)
        second = House("a", disk=disk)
        self.assertEqual((first, len(first)), (second, 1))
        second.tell(CELL)
        self.assertEqual((first == second, second == first, len(first), len(second)), (False, False, 1, 2))
        self.done(first, 1)

    def test_houses_without_a_disk_are_never_done_with(self):
        house = House("a")
        House("a")
        self.assertEqual(house.tell(CELL), ("a", 0))


class Falls(Case):

    def falls(self, begun, call, *news):
        """A fall at each sign of the call's record: the house has what it had, the next one all or none of the rest."""
        whole = len(record(1, rows(*news)))
        for many in list(range(whole + 1)) + [whole + 9, 10 ** 59]:
            disk = Disk()
            house = House("z", disk=disk)
            house.take(begun)
            log = disk.log()
            disk.fall(many)
            before = House("y")
            before.take(begun)
            with self.assertRaises(Fallen) as caught:
                call(house)
            self.assertEqual(vars(caught.exception), {})
            self.assertEqual(disk.log(), log + record(1, rows(*news))[:many])
            self.assertTrue(house == before)
            self.done(house, len(begun))
            anew = House("z", disk=disk)
            due = begun + (list(news) if many >= whole else [])
            self.assertEqual((anew.deeds(), anew.waiting()), (sorted(due, key=mark), []))
            self.done(house, len(begun))
            # The fall is used up.
            anew.tell(CELL)
            self.assertEqual(len(House("z", disk=disk)), len(due) + 1)

    def test_amid_tell(self):
        self.falls(SMALL[:2], lambda house: house.tell(CELL), deed("z", 0, 2, [("a", 2)], *CELL))

    def test_amid_several(self):
        acts = [CELL, ("write", ("z", 0), None, "x"), ("drop", ("a", 0))]
        self.falls(SMALL[:2], lambda house: house.several(acts), deed("z", 0, 2, [("a", 2)], *CELL), deed("z", 1, 3, [("a", 2), ("z", 1)], *acts[1]),
                   deed("z", 2, 4, [("a", 2), ("z", 2)], *acts[2]))

    def test_amid_take(self):
        self.falls(SMALL[:2], lambda house: house.take([B1, A0, B2, B0]), B0, B1, B2)

    def test_amid_hear(self):
        self.falls(SMALL[:2], lambda house: house.hear(("give", "q", (B1, B0))), B0, B1)

    def test_where_none_is_written_none_falls(self):
        disk = Disk()
        house = House("z", disk=disk)
        house.take([A0])
        disk.fall(3)
        wrong = deed("c", 0, 5, [], *CELL)
        self.assertEqual(house.take([A0, B0, wrong]), [(("a", 0), "had"), (("b", 0), "waits", ("a", 1)), (("c", 0), "wrong", "stamp")])
        self.assertRaises(ValueError, house.tell, ("drop", ("q", 1)))
        self.assertRaises(ValueError, house.several, [CELL, None])
        self.assertEqual(house.several([]), [])
        self.assertEqual((house.hear(("have", "b", ())), house.page(), len(house)), (("give", "z", (A0,)), ["-"], 1))
        self.assertRaises(Fallen, house.tell, CELL)
        self.done(house, 1)

    def test_what_was_told_or_given_stands(self):
        """Of each sign at which a disk may fall, whatever was told ahead is there behind it."""
        chance = random.Random(291)
        for _ in range(60):
            disk, told, given = Disk(), set(), set()
            house = House("a", disk=disk)
            other = PlainHouse("b")
            for _ in range(30):
                if chance.random() < 0.3:
                    disk.fall(chance.choice([0, 1, 10, 30, 60, 10 ** 4]))
                try:
                    roll = chance.random()
                    if roll < 0.5:
                        told.add(house.tell(house_act(chance, house.deeds())))
                    elif roll < 0.6:
                        told |= set(house.several([CELL] * chance.randint(1, 3)))
                    elif roll < 0.8:
                        other.take(house.deeds())
                        other.tell(house_act(chance, other.taken()))
                        told |= {row[0] for row in house.take(other.taken()) if row[1] == "new"}
                    else:
                        give = house.hear(other.have())
                        given |= {name(one) for one in give[2]} if give else set()
                        other.hear(give) if give else None
                except Fallen:
                    self.assertRaises(Fallen, house.now)
                    house = House("a", disk=disk)
                there = {name(one) for one in house.deeds()}
                self.assertTrue(told <= there and given <= there)
                self.assertTrue(house.is_whole(house.now()))
                self.assertEqual(House("c", disk=Disk(picture=disk.picture(), log=disk.log())), house)


class Wrongs(Case):

    def test_all_calls_are_there(self):
        """What calls_of has is all that a house has, so that done asks for each."""
        house = House("a")
        house.tell(CELL)
        raised = []
        for call in calls_of(house):
            try:
                call()
            except Fallen:
                raised.append(call)
            except ValueError:
                pass
        self.assertEqual(raised, [])
        for thing in ODD:
            self.assertFalse(house == thing)


if __name__ == "__main__":
    unittest.main()
