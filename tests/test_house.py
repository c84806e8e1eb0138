"""Houses: deeds told, taken, heard; the notebook of now (points 2, 3, 5, 6, 9, 22, 23, 28 to 31, 37, 41)."""

import copy
import unittest

from makers import A0, A1, A2, B0, B1, ODD, SMALL, deed, mark, name
from terms import fault, number

from leafround.disks import Disk
from leafround.errors import NoAct, NoCell, NoDeed, NoHand, NoMoment, NoParcel, Refused
from leafround.house import House
from leafround.judge import judged

CELL = ("cell", None, None)


def new(*deeds):
    return [(name(one), "new") for one in deeds]


def by_marks(deeds):
    return sorted(deeds, key=mark)


def with_texts(hand, *texts, disk=None):
    """A house with a cell for each text, one behind the other, and the names of these."""
    house, cells = House(hand, disk=disk), []
    for text in texts:
        cells.append(house.tell(("cell", None, cells[-1] if cells else None)))
        if text:
            house.tell(("write", cells[-1], None, text))
    return house, cells


class Case(unittest.TestCase):
    maxDiff = None

    def refuses(self, error, field, call, *args, **more):
        """The call raises just this, with this field, and the house is as it was."""
        with self.assertRaises(error) as caught:
            call(*args, **more)
        self.assertIs(caught.exception.__class__, error)
        self.assertEqual(repr(vars(caught.exception)), repr(field))
        return caught.exception


class Begins(Case):

    def test_empty(self):
        for house in (House("a"), House("abcdefgh"), House("a", disk=Disk()), House(hand="a", disk=None)):
            self.assertEqual((len(house), house.now(), house.deeds(), house.waiting(), house.cells(), house.answers(), house.read(), house.page()), (0, (), [], [], [], [], [], []))
            self.assertEqual(house.papers(), ([], [], []))
            self.assertEqual((house.known("b"), house.offer("b"), house.back(()), house.difference((), ()), house.broken((), ())), ((), None, [], [], []))
            self.assertIs(house.is_whole(()), True)

    def test_of_no_hand(self):
        for thing in ODD + ["A", "abcdefghi", "a b", "a1", "\u00e9", ("a",), ["a"]]:
            if not (isinstance(thing, str) and thing == "a"):
                self.refuses(NoHand, {"thing": thing}, House, thing)
                disk = Disk(log="junk")
                self.refuses(NoHand, {"thing": thing}, House, thing, disk=disk)
                self.assertEqual((disk.whose(), disk.log()), (None, "junk"))


class Tells(Case):

    def test_names_and_deeds(self):
        house = House("a")
        self.assertEqual(house.tell(CELL), ("a", 0))
        self.assertEqual(house.tell(act=("write", ("a", 0), None, "one")), ("a", 1))
        self.assertEqual(house.deeds(), [A0, A1])
        self.assertEqual((len(house), house.now()), (2, (("a", 2),)))

    def test_it_has_seen_all_that_was_taken_in(self):
        house = House("b")
        house.take([A0, A1])
        self.assertEqual(house.tell(("cell", ("a", 0), None)), ("b", 0))
        self.assertEqual(house.deeds(), [A0, A1, B0])
        house.take([A2])
        self.assertEqual(house.tell(CELL), ("b", 1))
        self.assertEqual(house.deeds()[-1], deed("b", 1, 3, [("a", 3), ("b", 1)], *CELL))

    def test_refused_acts(self):
        house = House("a", disk=Disk())
        house.take([deed("b", 0, 0, [], *CELL)])
        house.tell(CELL)
        for thing in ODD:
            if thing != ("cell", None, None):
                self.refuses(NoAct, {"word": "form"}, house.tell, thing)
        for act, word in ((("drop", ("a", 1)), "names"), (("cell", ("b", 0), ("a", 0)), "row"), (("write", ("a", 0), None, ""), "form"), (("on", ("c", 0)), "names"),
                          (["cell", None, None], "form"), (("cell", None), "form"), (("cell", None, ("a", True)), "form")):
            self.refuses(NoAct, {"word": word}, house.tell, act)
        self.assertEqual((len(house), house.now()), (2, (("a", 1), ("b", 1))))
        self.assertEqual(house.tell(CELL), ("a", 1))

    def test_several(self):
        house = House("a")
        acts = [CELL, ("write", ("a", 0), None, "one"), ("cell", ("a", 0), None)]
        self.assertEqual(house.several(acts), [("a", 0), ("a", 1), ("a", 2)])
        self.assertEqual(house.deeds(), [A0, A1, deed("a", 2, 2, [("a", 2)], "cell", ("a", 0), None)])
        self.assertEqual(house.several(acts=[CELL]), [("a", 3)])
        self.assertEqual(acts, [CELL, ("write", ("a", 0), None, "one"), ("cell", ("a", 0), None)])
        self.assertEqual([cell for cell, _, _ in house.cells()], [("a", 3), ("a", 0), ("a", 2)])

    def test_sixty_and_one_act(self):
        house = House("a")
        self.assertEqual(house.several([CELL] * 60), [("a", k) for k in range(60)])
        self.assertEqual(house.several([CELL]), [("a", 60)])

    def test_several_are_like_one_by_one(self):
        acts = [CELL, ("write", ("a", 0), None, "x = 1"), CELL, ("write", ("a", 2), None, "x"), ("off", ("a", 1)), ("place", ("a", 0), ("a", 2), None), ("strike", (("a", 3, 0),))]
        one, other = House("a"), House("a")
        names = [one.tell(act) for act in acts]
        self.assertEqual(other.several(acts), names)
        self.assertEqual(one, other)
        self.assertEqual((one.deeds(), one.page()), (other.deeds(), other.page()))

    def test_several_all_or_none(self):
        disk = Disk()
        house = House("a", disk=disk)
        house.tell(CELL)
        log = disk.log()
        for place, act, word in ((0, ("drop", ("a", 1)), "names"), (1, ("drop", ("b", 1)), "names"), (2, None, "form"), (2, ("cell", ("a", 1), ("a", 0)), "row"), (2, ["cell", None, None], "form")):
            acts = [CELL, ("write", ("a", 1), None, "x")][:place] + [act] + [CELL, None]
            refused = self.refuses(Refused, {"place": place}, house.several, acts)
            self.assertIsInstance(refused.__cause__, NoAct)
            self.assertEqual(refused.__cause__.word, word)
            self.assertEqual((len(house), house.now(), house.deeds(), disk.log()), (1, (("a", 1),), [A0], log))
        self.assertEqual(house.several([CELL, ("drop", ("a", 1))]), [("a", 1), ("a", 2)])

    def test_several_refused_leave_what_waits(self):
        house = House("a")
        waits = deed("b", 1, 1, [("b", 1)], *CELL)
        house.take([waits])
        self.refuses(Refused, {"place": 1}, house.several, [CELL, ("drop", ("a", 7))])
        self.assertEqual((house.waiting(), len(house)), ([waits], 0))
        free = deed("b", 0, 0, [], *CELL)
        self.assertEqual(house.take([free]), new(free, waits))

    def test_several_of_anything(self):
        for thing in ODD:
            if thing != ("cell", None, None):
                self.refuses(Refused, {"place": 1}, House("a").several, [CELL, thing])

    def test_what_waited_for_a_deed_told_here_waits_on(self):
        """Behind all that are handed in, not behind one that is told here."""
        house = House("a")
        waits = deed("b", 0, 1, [("a", 1)], *CELL)
        house.take([waits])
        house.tell(CELL)
        self.assertEqual((house.waiting(), len(house)), ([waits], 1))
        self.assertEqual(house.take([]), new(waits))
        self.assertEqual((house.waiting(), len(house)), ([], 2))


class Takes(Case):

    def test_the_rows_of_point_six(self):
        house = House("b")
        wrong = deed("c", 0, 5, [], *CELL)
        unlike = deed("a", 0, 0, [], "cell", None, ("a", 0))
        rows = house.take([A1, A0, A0, unlike, wrong, deed("b", 0, 0, [], *CELL)])
        self.assertEqual(rows, [(("a", 1), "waits", ("a", 0)), (("a", 0), "new"), (("a", 0), "had"), (("a", 0), "pair", A0), (("c", 0), "wrong", "stamp"), (("b", 0), "own"), (("a", 1), "new")])
        self.assertEqual((house.deeds(), house.waiting(), len(house)), ([A0, A1], [], 2))

    def test_none(self):
        self.assertEqual(House("a").take(deeds=[]), [])

    def test_no_deeds(self):
        house = House("z", disk=Disk())
        for thing in ODD:
            self.refuses(NoDeed, {"place": 2}, house.take, [A0, A1, thing, None])
        self.assertEqual((len(house), house.deeds(), house.waiting()), (0, [], []))

    def test_waiting_by_names(self):
        house = House("z")
        ones = [deed("b", 10, 5, [("b", 10)], *CELL), deed("b", 2, 5, [("b", 2)], *CELL), deed("a", 1, 7, [("a", 1)], *CELL), deed("c", 1, 4, [("c", 1)], *CELL)]
        house.take(ones)
        self.assertEqual([name(one) for one in house.waiting()], [("a", 1), ("b", 2), ("b", 10), ("c", 1)])

    def test_told_lists_are_new_and_what_is_handed_in_is_left(self):
        house = House("z")
        handed = [A1, A0]
        rows = house.take(handed)
        self.assertEqual(handed, [A1, A0])
        handed.clear()
        rows.clear()
        for told in (house.deeds(), house.waiting(), house.cells(), house.answers(), house.read(), house.page(), *house.papers(), house.back(()), house.unaware(("a", 0)),
                     house.difference((), house.now()), house.wrote(("a", 0)), house.broken((), ())):
            told.append("x")
        for told in (house.answers(at=house.now()), house.cells(at=house.now()), house.page(at=house.now())):
            told.clear()
        self.assertEqual((house.deeds(), house.waiting()), ([A0, A1], []))
        self.assertEqual((house.page(), house.cells()), (["- one", "  ^", "  ! nobody"], [(("a", 0), 0, ((("a", 1, 0), "o"), (("a", 1, 1), "n"), (("a", 1, 2), "e")))]))
        self.assertEqual(house.read(), [(("a", 0), "kept")])


class Equal(Case):

    def test_by_deeds_alone(self):
        one, other = House("x"), House("y", disk=Disk())
        self.assertEqual(one, other)
        one.take(SMALL)
        self.assertNotEqual(one, other)
        self.assertFalse(one == other)
        other.take(SMALL[::-1])
        self.assertEqual(one, other)
        other.hear(("have", "b", (("b", 1),)))
        other.page()
        other.take([deed("q", 1, 1, [("q", 1)], *CELL)])
        self.assertTrue(one == other)
        other.tell(CELL)
        self.assertFalse(one == other)

    def test_other_things(self):
        for thing in ODD + [object()]:
            self.assertFalse(House("a") == thing)
            self.assertTrue(House("a") != thing)

    def test_unlike_deeds_of_one_name(self):
        one, other = House("x"), House("x")
        one.take([A0])
        other.take([deed("a", 0, 0, [], "cell", None, None)])
        self.assertEqual(one, other)
        other = House("x")
        other.take([deed("a", 0, 0, [], "write", ("a", 0), None, "x")])
        self.assertEqual(len(other), 0)
        one, other = House("x"), House("x")
        one.take([A0, A1])
        other.take([A0, A1[:4] + (("write", ("a", 0), None, "two"),)])
        self.assertEqual((len(one), len(other), one == other), (2, 2, False))


class Hears(Case):

    def test_a_have(self):
        house = House("z")
        house.take(SMALL)
        self.assertEqual(house.hear(("have", "b", ())), ("give", "z", tuple(by_marks(SMALL))))
        self.assertEqual(house.hear(parcel=("have", "b", (("a", 1), ("b", 2)))), ("give", "z", tuple(by_marks(SMALL[1:2] + SMALL[4:]))))
        self.assertEqual(house.hear(("have", "b", (("b", 4),))), ("give", "z", (A0, A1, A2)))
        self.assertIsNone(house.hear(("have", "b", (("a", 3), ("b", 4)))))
        self.assertIsNone(house.hear(("have", "b", (("a", 30), ("b", 40), ("q", 1)))))
        self.assertIsNone(House("z").hear(("have", "b", ())))
        self.assertEqual(len(house), 7)

    def test_what_waits_isn_t_given(self):
        house = House("z")
        house.take([A0, B0])
        self.assertEqual(house.hear(("have", "b", ())), ("give", "z", (A0,)))
        self.assertEqual(house.have(), ("have", "z", (("a", 1),)))

    def test_a_give(self):
        house = House("z")
        self.assertEqual(house.hear(("give", "b", (A1, A0, A1))), [(("a", 1), "waits", ("a", 0)), (("a", 0), "new"), (("a", 1), "had"), (("a", 1), "new")])
        self.assertEqual(house.deeds(), [A0, A1])
        self.assertEqual(house.hear(("give", "c", (A1, A0))), [(("a", 1), "had"), (("a", 0), "had")])

    def test_have(self):
        house = House("b")
        self.assertEqual(house.have(), ("have", "b", ()))
        house.take([A0, A1])
        house.tell(CELL)
        self.assertEqual(house.have(), ("have", "b", (("a", 2), ("b", 1))))

    def test_no_parcel(self):
        house = House("z", disk=Disk())
        for thing in ODD + [("have", "z", ()), ("give", "z", (A0,)), ("give", "a", ()), ("give", "a", [A0]), ["have", "a", ()], ("have", "a", (("b", 1), ("a", 1))), ("have", "A", ()),
                            ("give", "a", (A0, A0[:4])), ("take", "a", ()), ("have", "a", (("a", True),))]:
            self.refuses(NoParcel, {"thing": thing}, house.hear, thing)
        self.assertEqual((len(house), house.known("a"), house.known("b")), (0, (), ()))

    def test_known(self):
        house = House("z")
        self.assertEqual(house.known("b"), ())
        house.hear(("have", "b", (("a", 2), ("c", 9))))
        self.assertEqual(house.known(hand="b"), (("a", 2), ("c", 9)))
        house.hear(("have", "b", (("a", 1), ("d", 3))))
        self.assertEqual(house.known("b"), (("a", 2), ("c", 9), ("d", 3)))
        house.hear(("have", "b", ()))
        self.assertEqual(house.known("b"), (("a", 2), ("c", 9), ("d", 3)))
        self.assertEqual((house.known("a"), house.known("c")), ((), ()))

    def test_known_by_gives(self):
        house = House("z")
        house.hear(("give", "q", (B1,)))
        self.assertEqual(house.known("q"), (("a", 2), ("b", 2)))
        house.hear(("give", "q", (A0, A2)))
        self.assertEqual(house.known("q"), (("a", 3), ("b", 2)))
        house.hear(("give", "q", (deed("c", 4, 9, [("c", 4), ("d", 7)], *CELL), deed("e", 0, 0, [], *CELL))))
        self.assertEqual(house.known("q"), (("a", 3), ("b", 2), ("c", 5), ("d", 7), ("e", 1)))
        self.assertEqual((house.known("a"), house.known("b")), ((), ()))

    def test_what_is_taken_tells_nothing_of_others(self):
        house = House("z")
        house.take(SMALL)
        house.hear(("have", "q", ()))
        self.assertEqual((house.known("a"), house.known("q")), ((), ()))
        house.offer("q")
        self.assertEqual(house.known("q"), ())

    def test_offer(self):
        house = House("z")
        house.take(SMALL)
        self.assertEqual(house.offer("b"), ("give", "z", tuple(by_marks(SMALL))))
        house.hear(("have", "b", (("a", 2), ("b", 9))))
        self.assertEqual(house.offer(hand="b"), ("give", "z", (A2,)))
        self.assertEqual(house.offer("a"), ("give", "z", tuple(by_marks(SMALL))))
        house.hear(("give", "b", (A2,)))
        self.assertIsNone(house.offer("b"))
        mine = house.tell(CELL)
        self.assertEqual([name(one) for one in house.offer("b")[2]], [mine])
        self.assertIsNone(House("z").offer("b"))

    def test_no_hand(self):
        house = House("z")
        for thing in ODD + ["z", "A", "abcdefghi", ("b",)]:
            if not (isinstance(thing, str) and thing == "a"):
                self.refuses(NoHand, {"thing": thing}, house.known, thing)
                self.refuses(NoHand, {"thing": thing}, house.offer, thing)

    def test_two_houses_come_even(self):
        one, other = House("a"), House("b")
        for house in (one, other):
            for _ in range(3):
                house.tell(CELL)
        give = other.hear(one.have())
        self.assertEqual(len(one.hear(give)), 3)
        give = one.hear(other.have())
        self.assertEqual([row[1] for row in other.hear(give)], ["new"] * 3)
        self.assertEqual((one.now(), one), (other.now(), other))
        self.assertEqual((one.hear(other.have()), other.hear(one.have())), (None, None))
        self.assertEqual((one.offer("b"), other.offer("a")), (None, None))
        self.assertEqual(one.page(), other.page())

    def test_parcels_lost_doubled_late(self):
        one, other = House("a"), House("b")
        gives = []
        for text in ("x = 1", "y = x", "x + y"):
            cell = one.tell(CELL)
            one.tell(("write", cell, None, text))
            gives.append(one.offer("b"))
        other.hear(gives[2])
        for parcel in (gives[0], gives[2], gives[1], gives[0]):
            self.assertEqual({row[1] for row in other.hear(parcel)}, {"had"})
        self.assertEqual((one, one.page()), (other, other.page()))
        late = House("c")
        for late_deed in one.deeds()[::-1]:
            late.hear(("give", "b", (late_deed,)))
        self.assertEqual((late, late.page(), late.waiting()), (one, one.page(), []))


class NowShows(Case):

    def test_the_notebook(self):
        house = House("z")
        house.take(SMALL)
        a0, b0 = ("a", 0), ("b", 0)
        due = [(a0, 0, ((("a", 1, 1), "n"),)), (b0, 1, tuple((("b", 1, number_), sign) for number_, sign in enumerate("two!")))]
        self.assertEqual(house.cells(), due)
        self.assertEqual(house.cells(at=None), due)
        self.assertEqual(house.read(), [])

    def test_answers(self):
        house, cells = with_texts("a", "x = 2", "# no", "y = x * z", "f(n) = n", "", "z = f(x) + 1", "1 +")
        due = [(cells[0], number(2)), (cells[1], None), (cells[2], number(6)), (cells[4], None), (cells[5], number(3)), (cells[6], ("fault", "source", cells[6], 3))]
        self.assertEqual(house.answers(), due)
        self.assertEqual(house.answers(at=None), due)

    def test_page(self):
        house, cells = with_texts("a", "x = 2", "y = x // 0", "y + 1")
        house.tell(("place", cells[1], cells[0], None))
        lines = ["- x = 2", "  = 2", "  - y = x // 0", "        ^", "    ! nought", "- y + 1", "  ! from a:2"]
        self.assertEqual(house.page(), lines)
        self.assertEqual(house.page(at=None, width=60, top=0, rows=None), lines)
        self.assertEqual((house.page(top=2), house.page(rows=3), house.page(top=5, rows=9), house.page(top=7), house.page(top=99, rows=1)), (lines[2:], lines[:3], lines[5:], [], []))
        self.assertEqual(house.page(width=20), lines)

    def test_page_is_of_the_width(self):
        house, _ = with_texts("a", "x = '" + "a" * 50 + "'")
        self.assertEqual(house.page(width=20)[0], "- x = 'aaaaaaaaaaaaa")
        self.assertEqual(len(house.page(width=20)), 8)
        self.assertEqual(len(house.page(width=120)), 2)

    def test_papers(self):
        house, cells = with_texts("a", "x = y + 1", "y = 2", "p = p", "f(n) = f(n)", "f(1)")
        levels, rings, whys = papers = house.papers()
        self.assertEqual([cell for cell, _ in levels], cells)
        self.assertEqual(rings, [(cells[2], [cells[2]])])
        self.assertEqual([(cell, rows and rows[-1][4]) for cell, rows in whys], [(cells[0], number(3)), (cells[1], number(2)), (cells[4], None)])
        for width in (20, 60, 120):
            self.assertIsNone(judged(house.deeds(), house.page(width=width), papers, width=width))
        self.assertEqual(house.papers(at=None), papers)
        before = copy.deepcopy(papers)
        papers[2][0][1].clear()
        papers[1][0][1].append(1)
        self.assertEqual(house.papers(), before)

    def test_wrote(self):
        house = House("z")
        house.take(SMALL)
        self.assertEqual(house.wrote(("a", 0)), [("a", 1, "n")])
        self.assertEqual(house.wrote(cell=("b", 0), at=None), [("b", 1, "two!")])


class Reads(Case):

    def rows(self, house, *due):
        self.assertEqual(repr(house.read()), repr(list(due)))

    def test_behind_answers_page_and_papers(self):
        for call in (House.answers, House.page, House.papers, lambda house: house.page(width=20, top=1, rows=1), lambda house: house.answers(at=None)):
            house, (x, y) = with_texts("a", "x = 1", "y = x + 1")
            self.rows(house)
            call(house)
            self.rows(house, (x, "read", ("new",)), (y, "read", ("new",)))
            call(house)
            self.rows(house, (x, "kept"), (y, "kept"))
            sign = [signs for cell, _, signs in house.cells() if cell == x][0][4][0]
            house.tell(("strike", (sign,)))
            house.tell(("write", x, sign, "3"))
            self.rows(house, (x, "kept"), (y, "kept"))
            call(house)
            self.rows(house, (x, "read", ("text",)), (y, "read", ("note", 0, ("x", "answer", x, number(3)))))

    def test_other_questions_change_nothing(self):
        house, (x, y) = with_texts("a", "x = 1", "y = x + 1")
        now = house.now()
        calls = [house.cells, house.read, house.have, house.now, house.deeds, house.waiting, lambda: house.wrote(x), lambda: house.unaware(x), lambda: house.difference((), now),
                 lambda: house.broken(now, now), lambda: house.back(()), lambda: house.answers(at=now), lambda: house.page(at=now), lambda: house.papers(at=now), lambda: house.page(at=()),
                 lambda: house.moment_of(x), lambda: house.is_whole(now), lambda: house.offer("b"), lambda: house.known("b"), lambda: len(house)]
        for call in calls:
            call()
            self.rows(house)
        house.page()
        house.page()
        for call in calls:
            call()
            self.rows(house, (x, "kept"), (y, "kept"))

    def test_a_cell_is_read_only_where_it_has_to_be(self):
        house, cells = with_texts("a", "x = 1", "y = x == 1", "z = if y then 5 else 6", "q = 7", "r = r", "f(n) = n + x", "f(2)")
        x, y, z, q, r, _, g = cells
        house.page()
        house.tell(("write", x, ("a", 1, 4), " + 0"))
        house.page()
        self.rows(house, (x, "read", ("text",)), (y, "kept"), (z, "kept"), (q, "kept"), (r, "ring"), (g, "kept"))
        house.tell(("write", x, ("a", 1, 4), " + 1"))
        house.page()
        two = ("x", "answer", x, number(2))
        self.rows(house, (x, "read", ("text",)), (y, "read", ("note", 0, two)), (z, "read", ("note", 0, ("y", "answer", y, ("truth", False)))), (q, "kept"), (r, "ring"),
                  (g, "read", ("note", 1, two)))
        self.assertEqual(house.page()[:6], ["- x = 1 + 1 + 0", "  = 2", "- y = x == 1", "  = false", "- z = if y then 5 else 6", "  = 6"])

    def test_a_cell_that_wasn_t_shown_for_a_while_is_kept(self):
        house, (x, y) = with_texts("a", "x = 1", "y = x + 1")
        house.page()
        drop = house.tell(("drop", y))
        house.page()
        self.rows(house, (x, "kept"))
        house.tell(("off", drop))
        house.page()
        self.rows(house, (x, "kept"), (y, "kept"))

    def test_late_deeds(self):
        """What comes late is read as if it had been there."""
        house, (x,) = with_texts("a", "x = 1")
        other = House("b")
        other.take(house.deeds())
        cell = other.tell(("cell", None, None))
        other.tell(("write", cell, None, "x = 2"))
        reader = house.tell(("cell", None, x))
        house.tell(("write", reader, None, "x"))
        house.page()
        house.take(other.deeds())
        house.page()
        self.rows(house, (cell, "read", ("new",)), (x, "kept"), (reader, "read", ("note", 0, ("x", "twice"))))


class Refusals(Case):

    def test_no_moment(self):
        house = House("z")
        house.take(SMALL)
        now = house.now()
        bad = [(("a", 4),), (("a", 0),), (("b", 1),), (("a", 1), ("b", 1)), (("b", 4), ("a", 3)), [("a", 1)], (("q", 1),), (("a", True),), now[0], (("z", 1),), (("a", 2), ("b", 4)), None] + [
            thing for thing in ODD if thing != () or isinstance(thing, list)]
        for thing in bad:
            for call in (house.difference, house.broken):
                self.refuses(NoMoment, {"thing": thing}, call, thing, now)
                self.refuses(NoMoment, {"thing": thing}, call, now, thing)
                self.refuses(NoMoment, {"thing": thing}, call, thing, "other")
                self.refuses(NoMoment, {"thing": thing}, call, other="other", one=thing)
            self.refuses(NoMoment, {"thing": thing}, house.back, thing)
            if thing is not None:
                for call in (house.cells, house.answers, house.page, house.papers):
                    self.refuses(NoMoment, {"thing": thing}, call, at=thing)
                # Behind NoMoment comes NoCell.
                for cell in (("a", 0), ("q", 9), None):
                    self.refuses(NoMoment, {"thing": thing}, house.wrote, cell, at=thing)
            self.assertIs(house.is_whole(thing), False)

    def test_no_cell(self):
        house = House("z")
        house.take(SMALL)
        drop = house.tell(("drop", ("b", 0)))
        for thing in ODD + [("a", 1), ("a", 7), ("q", 0), ("a", False), ["a", 0], ("a", 0, 0), ("a", 0.5), drop]:
            if thing != ("a", 0) or repr(thing) != repr(("a", 0)):
                self.refuses(NoCell, {"cell": thing}, house.wrote, thing)
                self.refuses(NoCell, {"cell": thing}, house.wrote, thing, at=house.now())
                self.refuses(NoCell, {"cell": thing}, house.unaware, thing)
        # One that isn't shown was made all the same.
        self.refuses(NoCell, {"cell": ("b", 0)}, house.wrote, ("b", 0))
        self.assertEqual(house.wrote(("b", 0), at=(("a", 2), ("b", 2))), [("b", 1, "two!")])
        self.assertIsInstance(house.unaware(("b", 0)), list)
        self.refuses(NoCell, {"cell": ("a", 0)}, house.wrote, ("a", 0), at=())

    def test_what_is_refused_changes_nothing(self):
        disk = Disk()
        house = House("z", disk=disk)
        house.take(SMALL[:3] + [SMALL[6]])
        house.hear(("have", "q", (("a", 1),)))
        house.page()
        state = (house.deeds(), house.waiting(), house.known("q"), house.read(), disk.log())
        for call in (lambda: house.tell(None), lambda: house.several([CELL, None]), lambda: house.take([A2, None]), lambda: house.hear(("give", "q", (A2, None))),
                     lambda: house.hear(("have", "q", [])), lambda: house.known("z"), lambda: house.page(at=5), lambda: house.back(7)):
            self.assertRaises(ValueError, call)
            self.assertEqual((house.deeds(), house.waiting(), house.known("q"), house.read(), disk.log()), state)


if __name__ == "__main__":
    unittest.main()
