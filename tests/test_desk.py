"""A desk of rows (points 2, 10, 27 to 34, 42)."""

import random
import unittest

from makers import ODD, mark, name
from plainhouse import PlainHouse, house_act, page_at, row_of_words

from leafround.desk import Desk
from leafround.errors import Fallen, NoAct, NoCell, NoHouse, NoMoment, NoParcel, NoRow, Refused

MOST = 10 ** 60 - 1


def desk_of(*rows):
    desk = Desk()
    for row in rows:
        desk.say(row)
    return desk


SMALL = ("house a", "house b", "a all\ncell - -\nwrite a:0 - x = 1 + y\ncell - a:0\nwrite a:2 - y = 2\ncell a:2 -\nwrite a:4 - f(n) = n // y")


class Case(unittest.TestCase):
    maxDiff = None

    def says(self, desk, row, *lines):
        self.assertEqual(desk.say(row), "\n".join(lines), row)

    def refuses(self, desk, row, error, field):
        with self.assertRaises(error) as caught:
            desk.say(row)
        self.assertIs(caught.exception.__class__, error, row)
        self.assertEqual(repr(vars(caught.exception)), repr(field), row)

    def no_row(self, desk, *rows):
        for row in rows:
            self.refuses(desk, row, NoRow, {"row": row})


class Houses(Case):

    def test_new_ones(self):
        desk = Desk()
        self.says(desk, "house a", "ok")
        self.says(desk, "house abcdefgh", "ok")
        self.assertEqual(desk.say(row="a deeds"), "none")
        self.says(desk, "abcdefgh deeds", "none")

    def test_one_that_stands_already(self):
        desk = desk_of("house a", "a cell - -")
        self.refuses(desk, "house a", NoHouse, {"hand": "a"})
        self.says(desk, "a deeds", "a 0 0 - cell - -")

    def test_hands(self):
        self.no_row(Desk(), "house", "house ", "house A", "house abcdefghi", "house a b", "house  a", "house a ", " house a", "house a\n", "house a1", "house \u00e9", "House a", "house a\nhouse b", "house -")

    def test_a_house_called_house(self):
        """house HAND goes ahead of the rows of a house."""
        desk = desk_of("house house")
        self.says(desk, "house deeds", "ok")
        self.says(desk, "house rise", "ok")
        self.refuses(desk, "house house", NoHouse, {"hand": "house"})
        self.refuses(desk, "house deeds", NoHouse, {"hand": "deeds"})
        self.says(desk, "house cell - -", "house:0")
        self.says(desk, "house write house:0 - hi", "house:1")
        self.says(desk, "house page 60", "- hi", "  ^", "  ! nobody")
        self.says(desk, "deeds asks house", "2")
        self.says(desk, "deeds deeds", "house 0 0 - cell - -", "house 1 1 house:1 write house:0 - hi")
        self.says(desk, "rise rise", "0")
        self.no_row(desk, "house house deeds", "house page ", "house page\n")
        self.says(desk, "house page", "ok")

    def test_each_desk_has_its_own(self):
        one, other = desk_of("house a"), Desk()
        self.refuses(other, "a deeds", NoHouse, {"hand": "a"})
        self.says(one, "a deeds", "none")


class Acts(Case):

    def test_each_kind(self):
        desk = desk_of("house a")
        for number, act in enumerate(("cell - -", "write a:0 - ab", "cell a:0 -", "place a:2 - a:0", "strike a:1:0 a:1:1", "drop a:2", "off a:5", "on a:5", "write a:0 a:1:1 c", "cell - a:3")):
            self.says(desk, "a " + act, "a:%d" % number)
        self.says(desk, "a deeds", *["a %d %d %s %s" % (number, number, "a:%d" % number if number else "-", act) for number, act in enumerate((
            "cell - -", "write a:0 - ab", "cell a:0 -", "place a:2 - a:0", "strike a:1:0 a:1:1", "drop a:2", "off a:5", "on a:5", "write a:0 a:1:1 c", "cell - a:3"))])
        self.says(desk, "a page 60", "- c", "  ^", "  ! nobody", "-")

    def test_signs_are_written_as_they_are(self):
        desk = desk_of("house a", "a cell - -")
        for signs in (" ", "  ", "a  b", " a ", "- - -", "~" * 60, "write a:0 - x", "'", "all"):
            before = desk.say("a deeds").count("\n")
            desk.say("a write a:0 - " + signs)
            self.assertEqual(desk.say("a deeds").split("\n")[before + 1].split(" ", 7)[7], signs)

    def test_rows_that_are_none(self):
        desk = desk_of("house a", "a cell - -", "a write a:0 - abc")
        self.no_row(desk, "a cell", "a cell -", "a cell - - -", "a cell  - -", "a cell - - ", " a cell - -", "a  cell - -", "a cell a:0:0 -", "a cell - a:1:0", "a cell A:0 -", "a cell - a", "a Cell - -",
                    "a cell - -\n", "\na cell - -", "a cell -\n-", "a\ncell - -", "a cell a:00 -", "a cell a:%d -" % (MOST + 1), "a cell a:-1 -", "a cell () -", "a cell None None", "acell - -",
                    "a place a:0 -", "a place - - -", "a place a:0 - - -", "a place a:0 -  ", "a write a:0 -", "a write a:0 - ", "a write a:0 x", "a write - - x", "a write a:0 a:1 x", "a write a:0 - " + "x" * 61,
                    "a write a:0 - x\ny", "a write a:0 - \u00e9", "a write a:0 - x\t", "a write  a:0 - x", "a write a:0  - x", "a strike", "a strike ", "a strike a:1", "a strike -", "a strike a:1:0 ",
                    "a strike a:1:1 a:1:0", "a strike a:1:0 a:1:0", "a strike a:1:0  a:1:1", "a strike a:1:0,a:1:1", "a strike " + " ".join("a:1:%d" % number for number in range(61)), "a drop", "a drop -",
                    "a drop a:0 a:0", "a drop a:0 ", "a drop a:0:0", "a off", "a off -", "a off a:1:0", "a on", "a on a:0 -", "a off a", "a on :0", "a on a:", "a on a:0:")
        self.says(desk, "a deeds", "a 0 0 - cell - -", "a 1 1 a:1 write a:0 - abc")

    def test_no_act(self):
        desk = desk_of("house a", "house b", "a cell - -", "a cell a:0 -")
        for act, word in (("drop a:7", "names"), ("drop b:0", "names"), ("off a:2", "names"), ("cell a:0 a:0", "row"), ("strike a:0:0", "names"), ("place a:1 - a:1", "row"), ("drop a:%d" % MOST, "names")):
            self.refuses(desk, "a " + act, NoAct, {"word": word})
        self.refuses(desk, "b drop a:0", NoAct, {"word": "names"})
        self.says(desk, "a cell - -", "a:2")


class All(Case):

    def test_some(self):
        desk = desk_of("house a")
        self.says(desk, "a all\ncell - -", "a:0")
        self.says(desk, "a all\nwrite a:0 -  x \nplace a:0 - a:0\nstrike a:1:0", "a:1", "a:2", "a:3")
        self.says(desk, "a deeds", "a 0 0 - cell - -", "a 1 1 a:1 write a:0 -  x ", "a 2 2 a:2 place a:0 - a:0", "a 3 3 a:3 strike a:1:0")

    def test_sixty_and_sixty_one(self):
        desk = desk_of("house a")
        self.says(desk, "a all" + "\ncell - -" * 60, *["a:%d" % k for k in range(60)])
        self.no_row(desk, "a all" + "\ncell - -" * 61)
        self.assertEqual(desk.say("a deeds").count("\n"), 59)

    def test_all_or_none(self):
        desk = desk_of("house a", "a cell - -")
        for place, act in ((0, "drop a:5"), (1, "off a:7"), (2, "cell - a:1\ncell a:0 a:0")):
            acts = ["cell - -", "drop a:1"][:place] + [act, "cell - -"]
            self.refuses(desk, "a all\n" + "\n".join(acts), Refused, {"place": place + act.count("\n")})
        self.says(desk, "a deeds", "a 0 0 - cell - -")
        self.says(desk, "a rise", "1")

    def test_one_record(self):
        desk = desk_of("house a", "a fall 20")
        self.refuses(desk, "a all\ncell - -\ncell - -\ncell - -", Fallen, {})
        self.says(desk, "a rise", "0")
        desk.say("a fall 999")
        self.refuses(desk, "a all\ncell - -\ncell - -\ncell - -", Fallen, {})
        self.says(desk, "a rise", "3")

    def test_rows_that_are_none(self):
        self.no_row(desk_of("house a"), "a all", "a all\n", "a all ", "a all cell - -", "a all \ncell - -", "a all\n\ncell - -", "a all\ncell - -\n", "a all\ncell - -\n\ncell - -", "a all\n cell - -", "a all\ncell - - ",
                    "a all\ncell - -\ncell -", "a all\na cell - -", "a all\ndeeds", "a all\nall", "a all\r\ncell - -", "a  all\ncell - -", "a\nall\ncell - -", "a all\ncell - -\nall\ncell - -", "all\ncell - -",
                    "a cell - -\ncell - -", "a All\ncell - -")


class Pages(Case):

    def test_pages(self):
        desk = desk_of(*SMALL)
        lines = ["- x = 1 + y", "  = 3", "- y = 2", "  = 2", "  - f(n) = n // y"]
        for width in (20, 21, 60, 119, 120):
            self.says(desk, "a page %d" % width, *lines)
        self.says(desk, "b page 60", "none")

    def test_windows(self):
        desk = desk_of(*SMALL)
        lines = desk.say("a page 60").split("\n")
        for top in (0, 1, 4):
            for rows in (1, 2, 5, 99, MOST):
                self.says(desk, "a page 60 %d %d" % (top, rows), *lines[top:top + rows])
        for top in (5, 6, MOST):
            self.says(desk, "a page 60 %d 1" % top, "none")
        self.says(desk, "b page 60 0 1", "none")

    def test_a_blank_line_is_one(self):
        desk = desk_of("house a", "a cell - -", "a write a:0 - " + " " * 40)
        self.says(desk, "a page 20", "-", "", "")
        self.assertEqual(desk.say("a page 20 1 1"), "")
        self.assertEqual(desk.say("a page 20 3 1"), "none")

    def test_at_a_moment(self):
        desk = desk_of(*SMALL, "b asks a", "b drop a:2")
        self.says(desk, "b at - page 60", "none")
        self.says(desk, "b at a:1 page 60", "-")
        self.says(desk, "b at a:2 page 20", "- x = 1 + y", "          ^", "  ! nobody")
        self.says(desk, "b at a:6 page 60", *desk.say("a page 60").split("\n"))
        self.says(desk, "b at a:6,b:1 page 60", "- x = 1 + y", "          ^", "  ! nobody")
        self.says(desk, "b page 60", "- x = 1 + y", "          ^", "  ! nobody")

    def test_no_moment(self):
        desk = desk_of(*SMALL, "b asks a", "b drop a:2")
        for word, thing in (("a:7", (("a", 7),)), ("b:1", (("b", 1),)), ("a:5,b:1", (("a", 5), ("b", 1))), ("a:6,c:1", (("a", 6), ("c", 1))), ("a:%d" % MOST, (("a", MOST),))):
            self.refuses(desk, "b at %s page 60" % word, NoMoment, {"thing": thing})
        self.refuses(desk, "a at b:1 page 60", NoMoment, {"thing": (("b", 1),)})

    def test_rows_that_are_none(self):
        desk = desk_of(*SMALL)
        self.no_row(desk, "a page", "a page ", "a page 19", "a page 121", "a page 0", "a page -60", "a page 060", "a page 60 ", "a page  60", "a page 60 0", "a page 60 0 0", "a page 60 0 20 1", "a page 60 -1 20",
                    "a page 60 00 20", "a page 60 0 020", "a page 60  0 20", "a page 60 0 20 ", "a page +60", "a page x", "a page 60 x 1", "a page 60 1 x", "a page 60\n", "a page\n60", "a page 60,0,1", "a page %d" % (MOST + 1),
                    "a page 60 %d 1" % (MOST + 1), "a page 6\u0660", "a Page 60", "page 60", "a page 60 - -", "a page 60 0 -",
                    "a at", "a at -", "a at - page", "a at - page 19", "a at - page 121", "a at - page 60 0 1", "a at page 60", "a at - - page 60", "a at -  page 60", "a at  page 60", "a at a:0 page 60", "a at a page 60",
                    "a at a:1, page 60", "a at ,a:1 page 60", "a at a:1,a:2 page 60", "a at b:1,a:1 page 60", "a at a:1:0 page 60", "a at A:1 page 60", "a at a:01 page 60", "a at a:%d page 60" % (MOST + 1), "a at a:1,-,b:1 page 60",
                    "a at - page 60 ", "a at - page 060", "a at - Page 60", "a at - deeds", "a at - page 60\n")


class Answers(Case):

    def test_as_written(self):
        desk = desk_of("house a", "a all\n" + "\n".join("cell - -\nwrite a:%d - %s" % (2 * number, text) for number, text in enumerate((
            "x = 0 - 4", "[true, 'it', [], -1]", "f(n) = n // 0", "# so", "f(1)", "r = r", "x + q", "1 + true", "1 +", "text(r)", "'", "''"))))
        for number, due in enumerate(("-4", "[true, 'it', [], -1]", "none", "none", "nought at 7 of a:4", "ring", "nobody", "kind", "source", "from a:10", "source", "''")):
            self.says(desk, "a answer a:%d" % (2 * number), due)

    def test_none(self):
        desk = desk_of(*SMALL, "a cell - -", "b asks a", "a drop a:0")
        for cell in ("a:0", "a:1", "a:4", "a:7", "a:99", "b:0", "q:%d" % MOST):
            self.says(desk, "a answer " + cell, "none")
        # Hidden here, it is shown still at the other one.
        self.says(desk, "b answer a:0", "3")

    def test_rows_that_are_none(self):
        self.no_row(desk_of(*SMALL), "a answer", "a answer ", "a answer -", "a answer a", "a answer a:0:0", "a answer a:0 a:2", "a answer a:0 ", "a answer  a:0", "a answer a:00", "a answer a:%d" % (MOST + 1), "a answer A:0",
                    "a answer a:0\n", "a answers a:0", "answer a:0")


class Who(Case):

    def test_for_each_shown_sign(self):
        desk = desk_of("house a", "house b", "a cell - -", "a write a:0 - abc", "b asks a", "b write a:0 a:1:0 X", "a asks b")
        self.says(desk, "a who a:0", "a:1 b:0 a:1 a:1")
        desk.say("a strike a:1:0 a:1:2")
        self.says(desk, "a who a:0", "b:0 a:1")
        desk.say("a off a:1")
        self.says(desk, "a who a:0", "b:0")
        desk.say("a off b:0")
        self.says(desk, "a who a:0", "none")
        self.says(desk, "b who a:0", "a:1 b:0 a:1 a:1")

    def test_no_cell(self):
        desk = desk_of("house a", "a cell - -", "a cell a:0 -", "a drop a:0")
        for word, cell in (("a:0", ("a", 0)), ("a:1", ("a", 1)), ("a:2", ("a", 2)), ("a:9", ("a", 9)), ("q:%d" % MOST, ("q", MOST))):
            self.refuses(desk, "a who " + word, NoCell, {"cell": cell})

    def test_rows_that_are_none(self):
        self.no_row(desk_of(*SMALL), "a who", "a who ", "a who -", "a who a:0:0", "a who a:0 a:2", "a who a", "a who a:0 ", "a who  a:0", "a who a:0\n", "who a:0", "a whom a:0")


class Hears(Case):

    def test_what_is_told(self):
        desk = desk_of("house a")
        self.says(desk, "a hear b 1 1 b:1 cell - -", "waits b:0")
        self.says(desk, "a hear b 1 1 b:1 cell - -", "had")
        self.says(desk, "a hear b 1 1 b:1 cell b:0 -", "pair")
        self.says(desk, "a hear b 0 3 - cell - -", "wrong stamp")
        self.says(desk, "a hear c 0 0 - drop b:0", "wrong names")
        self.says(desk, "a hear a 0 0 - cell - -", "own")
        self.says(desk, "a deeds", "none")
        self.says(desk, "a hear b 0 0 - cell - -", "new")
        self.says(desk, "a deeds", "b 0 0 - cell - -", "b 1 1 b:1 cell - -")
        self.says(desk, "a hear b 0 0 - cell - -", "had")
        self.says(desk, "a hear b 0 5 - cell - -", "pair")
        self.says(desk, "a hear c 0 2 b:2 cell b:0 b:0", "wrong row")
        self.says(desk, "a hear c 0 2 b:2,d:%d cell b:0 b:0" % MOST, "waits d:0")
        self.says(desk, "a hear b 2 2 b:2 write b:0 -  two  blanks ", "new")
        self.says(desk, "a page 60", "-", "-  two  blanks", "        ^", "  ! source")
        self.says(desk, "a hear e 0 1 b:1,f:2 cell - -", "waits f:0")

    def test_seen(self):
        desk = desk_of("house a")
        desk.say("a hear b 0 0 - cell - -")
        desk.say("a hear c 0 1 b:1 cell - -")
        self.says(desk, "a hear d 0 2 c:1 cell - -", "wrong seen")

    def test_rows_that_are_none(self):
        self.no_row(desk_of("house a", "house b"), "a hear", "a hear ", "a hear b 0 0 - cell -", "a hear  b 0 0 - cell - -", "a hear b 0 0 - cell - - ", "a hear b 0 0  - cell - -", "a hear b 00 0 - cell - -", "a hear b 1 1 - cell - -",
                    "a hear b 0 0 - cell - -\n", "a hear b 0 0 - cell - -\nb 0 0 - cell - -", "a hear B 0 0 - cell - -", "a hear cell - -", "a hear b", "hear b 0 0 - cell - -", "a hear b 0 0 - write b:0 - ", "a hear b 0 0 - Cell - -")


class Asks(Case):

    def test_how_many_came_in(self):
        desk = desk_of(*SMALL)
        self.says(desk, "b asks a", "6")
        self.says(desk, "b asks a", "0")
        self.says(desk, "a asks b", "0")
        self.assertEqual(desk.say("b deeds"), desk.say("a deeds"))
        desk.say("b cell - -")
        self.says(desk, "a asks b", "1")

    def test_those_that_had_waited_too(self):
        desk = desk_of("house a", "house b", "house c", "a cell - -", "a cell - -", "b asks a", "b cell - -")
        desk.say("c hear b 0 2 a:2 cell - -")
        self.says(desk, "c deeds", "none")
        self.says(desk, "c asks a", "3")
        self.says(desk, "c asks b", "0")
        self.says(desk, "c rise", "3")

    def test_what_is_known_by_it(self):
        """The other one hears this one's have, and this one the other's give."""
        desk = desk_of("house a", "house b", "a cell - -", "b cell - -", "a asks b", "b asks a")
        self.assertEqual(desk.say("a deeds"), desk.say("b deeds"))

    def test_of_itself(self):
        desk = desk_of("house a", "a cell - -")
        self.refuses(desk, "a asks a", NoParcel, {"thing": ("have", "a", (("a", 1),))})

    def test_a_fall_of_this_or_of_the_other(self):
        desk = desk_of("house a", "house b", "a cell - -", "b fall 3")
        self.refuses(desk, "b asks a", Fallen, {})
        self.refuses(desk, "b asks a", Fallen, {})
        self.refuses(desk, "a asks b", Fallen, {})
        self.says(desk, "b rise", "0")
        self.says(desk, "b asks a", "1")

    def test_rows_that_are_none(self):
        self.no_row(desk_of("house a", "house b"), "a asks", "a asks ", "a asks A", "a asks -", "a asks b b", "a asks  b", "a asks b ", "a asks abcdefghi", "a asks b\n", "asks b", "a ask b", "a asks b:0")


class FallsAndRises(Case):

    def test_fall(self):
        desk = desk_of("house a", "a cell - -")
        self.says(desk, "a fall 0", "ok")
        self.refuses(desk, "a cell - -", Fallen, {})
        for row in ("a deeds", "a page 60", "a cell - -", "a all\ncell - -", "a at - page 60", "a answer a:0", "a who a:9", "a hear b 0 0 - cell - -", "a page 60 9 9"):
            self.refuses(desk, row, Fallen, {})
        self.says(desk, "a rise", "1")
        self.says(desk, "a cell - -", "a:1")

    def test_the_last_told_counts(self):
        desk = desk_of("house a", "a fall 0", "a fall 999")
        self.refuses(desk, "a cell - -", Fallen, {})
        self.says(desk, "a rise", "1")
        self.says(desk, "a fall %d" % MOST, "ok")
        self.refuses(desk, "a cell - -", Fallen, {})
        self.says(desk, "a rise", "2")

    def test_a_fall_is_told_the_disk(self):
        desk = desk_of("house a", "a fall 5")
        self.says(desk, "a rise", "0")
        self.refuses(desk, "a cell - -", Fallen, {})
        # While the house is done with the disk is there still.
        self.says(desk, "a fall 6", "ok")
        self.says(desk, "a rise", "0")
        self.refuses(desk, "a cell - -", Fallen, {})

    def test_rise_of_a_house_that_stands(self):
        desk = desk_of(*SMALL, "b hear c 1 1 c:1 cell - -", "b asks a")
        self.says(desk, "b rise", "6")
        self.says(desk, "b hear c 1 1 c:1 cell - -", "waits c:0")
        self.says(desk, "a rise", "6")
        self.says(desk, "a cell - -", "a:6")

    def test_rows_that_are_none(self):
        self.no_row(desk_of("house a"), "a fall", "a fall ", "a fall -1", "a fall 01", "a fall 1 1", "a fall x", "a fall 1 ", "a fall  1", "a fall %d" % (MOST + 1), "a fall 1\n", "fall 1", "a fall -",
                    "a rise ", "a rise 1", "a Rise", "a rise\n", "rise", "a  rise", "a deeds ", "a deeds a", "a  deeds", "a deeds\n", "deeds", "a deed", " a deeds", "a\ndeeds", "a", "a ", "", " ", "\n", "-")


class Order(Case):

    def test_no_row_ahead_of_no_house(self):
        self.no_row(Desk(), "a", "a page", "z cell -", "z asks", "z asks A", "z all", "z hear x", "z fall x", "A deeds", "abcdefghi deeds", "z rise 1", "house Z", "z who -")

    def test_no_house(self):
        desk = desk_of("house a")
        for row in ("cell - -", "place a:0 - -", "write a:0 - x", "strike a:0:0", "drop a:0", "off a:0", "on a:0", "all\ncell - -", "page 60", "page 60 0 1", "at - page 60", "at b:1 page 60", "answer a:0",
                    "who a:0", "deeds", "hear a 0 0 - cell - -", "asks a", "asks q", "asks z", "fall 1", "rise"):
            self.refuses(desk, "z " + row, NoHouse, {"hand": "z"})

    def test_this_house_ahead_of_the_other(self):
        desk = desk_of("house a")
        self.refuses(desk, "z asks y", NoHouse, {"hand": "z"})
        self.refuses(desk, "z asks a", NoHouse, {"hand": "z"})
        self.refuses(desk, "a asks y", NoHouse, {"hand": "y"})

    def test_no_house_ahead_of_what_the_points_tell(self):
        desk = desk_of("house a", "a fall 0")
        self.refuses(desk, "a cell - -", Fallen, {})
        self.refuses(desk, "a asks y", NoHouse, {"hand": "y"})
        self.refuses(desk, "y asks a", NoHouse, {"hand": "y"})
        self.refuses(desk, "house a", NoHouse, {"hand": "a"})
        self.no_row(desk, "a deeds x")

    def test_of_anything(self):
        for thing in ODD:
            if not isinstance(thing, str) or thing not in ("a 0 0 - cell - -",):
                self.refuses(desk_of("house a"), thing, NoRow, {"row": thing})
        self.no_row(desk_of("house a"), "a 0 0 - cell - -")


class Bent(Case):

    rows = ("cell - -", "place a:0 - a:0", "strike a:1:0 a:1:1", "drop a:0", "off a:1", "on a:1", "page 60", "page 60 0 20", "at a:1,b:2 page 60", "at - page 60", "answer a:0", "who a:0", "deeds", "asks b", "fall 7", "rise",
            "all\ncell - -\ndrop a:0", "hear b 0 0 - drop a:0")

    def test_bent_by_a_word_a_blank_a_line_feed(self):
        """Each row by itself is one; with a word more or fewer, with a blank or a line feed more anywhere it is none."""
        for rest in self.rows:
            row = "a " + rest
            # Of houses that aren't there, a row is refused by NoHouse just where it is one.
            self.refuses(Desk(), row, NoHouse, {"hand": "a"})
            self.no_row(Desk(), row + " ", " " + row, row + "\n", "\n" + row, row + " x", row + "\nx", "a" + rest)
            places = [place for place, sign in enumerate(row) if sign == " "]
            for place in places:
                self.no_row(Desk(), row[:place] + " " + row[place:], row[:place] + "\n" + row[place:], row[:place] + "\t" + row[place + 1:])
                self.no_row(Desk(), row[:place] + "\n" + row[place + 1:], row[:place] + row[place + 1:])


class ByChance(Case):

    def test_as_the_points_tell(self):
        chance = random.Random(421)
        for _ in range(25):
            desk, plains = Desk(), {}
            for hand in "abc":
                self.says(desk, "house " + hand, "ok")
                plains[hand] = PlainHouse(hand)
            for _ in range(50):
                hand = chance.choice("abc")
                plain, roll = plains[hand], chance.random()
                if roll < 0.45:
                    act = house_act(chance, plain.taken())
                    row = row_of_words(("a", 0, 0, (), act)).split(" ", 4)[4]
                    self.says(desk, "%s %s" % (hand, row), "%s:%d" % plain.tell(act))
                elif roll < 0.6:
                    other = chance.choice([other for other in "abc" if other != hand])
                    give = plains[other].hear(plain.have())
                    rows = plain.hear(give) if give else []
                    self.says(desk, "%s asks %s" % (hand, other), str(sum(row[1] == "new" for row in rows)))
                elif roll < 0.7:
                    deeds = plains[chance.choice("abc")].taken()
                    if deeds:
                        deed = chance.choice(deeds)
                        row = plain.take([deed])[0]
                        due = "waits %s:%d" % row[2] if row[1] == "waits" else " ".join(row[1:2] + row[2:3]) if row[1] == "wrong" else row[1]
                        self.says(desk, "%s hear %s" % (hand, row_of_words(deed)), due)
                elif roll < 0.8:
                    width = chance.randint(20, 120)
                    lines = page_at(plain.taken(), width)
                    self.says(desk, "%s page %d" % (hand, width), *(lines or ["none"]))
                    top, rows = chance.randint(0, 6), chance.randint(1, 9)
                    self.says(desk, "%s page %d %d %d" % (hand, width, top, rows), *(lines[top:top + rows] or ["none"]))
                elif roll < 0.85 and plain.taken():
                    moment = plain.moment_of(name(chance.choice(plain.taken())))
                    lines = page_at(plain.at(moment), 40)
                    self.says(desk, "%s at %s page 40" % (hand, ",".join("%s:%d" % pair for pair in moment)), *(lines or ["none"]))
                elif roll < 0.9:
                    for cell, _, _ in plain.cells(plain.now()):
                        signs = ["%s:%d" % part[:2] for part in plain.wrote(cell, plain.now()) for _ in part[2]]
                        self.says(desk, "%s who %s:%d" % (hand, *cell), " ".join(signs) or "none")
                elif roll < 0.95:
                    self.says(desk, hand + " deeds", *([row_of_words(deed) for deed in sorted(plain.taken(), key=mark)] or ["none"]))
                else:
                    self.says(desk, hand + " rise", str(len(plain.taken())))
                    plains[hand] = PlainHouse(hand, plain.taken())


if __name__ == "__main__":
    unittest.main()
