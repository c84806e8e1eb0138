"""What is off, where cells stand, what is shown, at once and deed by deed (points 3, 7, 8, 9)."""

import random
import unittest

import makers
from makers import SMALL, by_chance, in_an_order, name, notebook_of, off_of, placed, shuffled, sign_row, stand_row

from leafround.errors import NoCell, NoteError
from leafround.notebook import Notebook, notebook, off_names, places
from leafround.rows import barred


class House:
    """Tells deeds by hand: each has seen all that this house has."""

    def __init__(self, hand, *others):
        self.plain = makers.PlainHeard(hand)
        for other in others:
            self.hear(other)

    def tell(self, *act):
        return name(self.plain.tell(act))

    def hear(self, other):
        self.plain.taken += [one for one in other.deeds() if one not in self.plain.taken]

    def deeds(self):
        return self.plain.taken


def added(deeds):
    book = Notebook()
    for one in deeds:
        book.add(one)
    return book


class Case(unittest.TestCase):

    def check(self, deeds, told=None):
        """All that can be asked, against the plain rule, in several orders; told: the shown texts."""
        chance = random.Random(len(deeds))
        for _ in range(4):
            handed = shuffled(chance, deeds)
            kept = list(handed)
            self.assertEqual(off_names(handed), sorted(off_of(deeds)))
            self.assertEqual(places(handed), placed(deeds)[0])
            self.assertEqual(notebook(handed), notebook_of(deeds))
            self.assertEqual(handed, kept)
            self.compare(added(in_an_order(chance, deeds)), deeds)
        if told is not None:
            rows = [(depth, "".join(sign for _, sign in signs)) for _, depth, signs in notebook(deeds)]
            self.assertEqual(rows, told)

    def compare(self, book, deeds):
        cells = notebook_of(deeds)
        self.assertEqual(book.cells(), cells)
        self.assertEqual(len(book), len(cells))
        self.assertEqual(book.places(), placed(deeds)[0])
        made = [name(one) for one in deeds if one[4][0] == "cell"]
        for cell in made:
            self.assertEqual(book.signs(cell), sign_row(deeds, cell))
        for parent in [None] + made:
            self.assertEqual(book.stands(parent), stand_row(deeds, parent))
        texts = {cell: "".join(sign for _, sign in signs) for cell, _, signs in cells}
        for cell in made:
            if cell in texts:
                self.assertEqual(book.text(cell), texts[cell])
            else:
                self.refused(book.text, cell)

    def refused(self, ask, cell):
        with self.assertRaises(NoCell) as held:
            ask(cell)
        self.assertEqual(held.exception.cell, cell)
        self.assertIsInstance(held.exception, NoteError)


class Off(Case):

    def test_none(self):
        self.assertEqual((off_names([]), places([]), notebook([])), ([], [], []))
        self.assertEqual((off_names(deeds=[]), places(deeds=[]), notebook(deeds=[])), ([], [], []))
        book = Notebook()
        self.assertEqual((book.cells(), book.places(), len(book), book.stands(None)), ([], [], 0, []))

    def test_off_on_off_again_by_marks(self):
        a = House("a")
        cell = a.tell("cell", None, None)
        text = a.tell("write", cell, None, "x")
        for turn, due in (("off", [text]), ("off", [text]), ("on", []), ("on", []), ("off", [text])):
            a.tell(turn, text)
            self.assertEqual(off_names(a.deeds()[::-1]), due)
            self.check(a.deeds(), [(0, "" if due else "x")])

    def test_the_last_by_marks_whoever_tells_it(self):
        a = House("a")
        cell = a.tell("cell", None, None)
        text = a.tell("write", cell, None, "x")
        b = House("b", a)
        a.tell("off", text)
        b.tell("on", text)
        a.hear(b)
        self.assertEqual(off_names(a.deeds()), [])
        self.check(a.deeds(), [(0, "x")])
        c = House("c", a)
        for _ in range(3):
            a.tell("drop", a.tell("cell", None, None))
        a.tell("off", text)
        c.tell("on", text)
        a.hear(c)
        self.assertEqual(off_names(a.deeds()), [text])
        self.check(a.deeds(), [(0, "")])

    def test_rising(self):
        a = House("a")
        cells = [a.tell("cell", None, None) for _ in range(12)]
        for cell in shuffled(random.Random(1), cells):
            a.tell("off", cell)
        self.assertEqual(off_names(a.deeds()), cells)
        self.check(a.deeds(), [])

    def test_a_making_that_is_off(self):
        a = House("a")
        cell = a.tell("cell", None, None)
        beneath = a.tell("cell", cell, None)
        a.tell("write", beneath, None, "y")
        off = a.tell("off", cell)
        self.check(a.deeds(), [])
        self.assertEqual(places(a.deeds()), [(cell, "done", ()), (beneath, "done", (cell,))])
        a.tell("place", beneath, None, None)
        self.check(a.deeds(), [(0, "y")])
        a.tell("on", cell)
        self.check(a.deeds(), [(0, "y"), (0, "")])
        self.assertEqual(off, ("a", 3))

    def test_a_drop_that_is_off(self):
        a = House("a")
        cell = a.tell("cell", None, None)
        a.tell("cell", cell, None)
        first, second = a.tell("drop", cell), a.tell("drop", cell)
        self.check(a.deeds(), [])
        a.tell("off", first)
        self.check(a.deeds(), [])
        a.tell("off", second)
        self.check(a.deeds(), [(0, ""), (1, "")])
        a.tell("on", first)
        self.check(a.deeds(), [])

    def test_a_strike_that_is_off(self):
        a = House("a")
        cell = a.tell("cell", None, None)
        text = a.tell("write", cell, None, "abcd")
        first = a.tell("strike", (text + (0,), text + (2,)))
        second = a.tell("strike", (text + (2,), text + (3,)))
        self.check(a.deeds(), [(0, "b")])
        a.tell("off", first)
        self.check(a.deeds(), [(0, "ab")])
        a.tell("off", second)
        self.check(a.deeds(), [(0, "abcd")])
        a.tell("on", first)
        self.check(a.deeds(), [(0, "bd")])
        a.tell("off", text)
        self.check(a.deeds(), [(0, "")])
        a.tell("on", text)
        self.check(a.deeds(), [(0, "bd")])


class Places(Case):

    def test_ways(self):
        a = House("a")
        top = a.tell("cell", None, None)
        mid = a.tell("cell", top, None)
        low = a.tell("cell", mid, None)
        move = a.tell("place", low, top, None)
        self.assertEqual(places(a.deeds()), [
            (top, "done", ()), (mid, "done", (top,)), (low, "done", (mid, top)), (move, "done", (top,))])
        self.check(a.deeds(), [(0, ""), (1, ""), (1, "")])
        back = a.tell("place", mid, low, None)
        self.assertEqual(places(a.deeds())[-1], (back, "done", (low, top)))
        off = a.tell("off", move)
        self.assertEqual(places(a.deeds())[3:], [(move, "off", None), (back, "passed", (low, mid))])
        self.check(a.deeds(), [(0, ""), (1, ""), (2, "")])
        a.tell("off", off[:1] + (back[1],))
        self.assertEqual(places(a.deeds())[3:], [(move, "off", None), (back, "off", None)])
        self.check(a.deeds())

    def test_beneath_itself(self):
        a = House("a")
        top = a.tell("cell", None, None)
        own = a.tell("place", top, top, None)
        self.assertEqual(places(a.deeds()), [(top, "done", ()), (own, "passed", (top,))])
        self.check(a.deeds(), [(0, "")])
        mid = a.tell("cell", top, None)
        low = a.tell("cell", mid, None)
        deep = a.tell("place", top, low, None)
        self.assertEqual(places(a.deeds())[-1], (deep, "passed", (low, mid, top)))
        self.check(a.deeds(), [(0, ""), (1, ""), (2, "")])

    def test_two_houses_each_beneath_the_other(self):
        a = House("a")
        one, two = a.tell("cell", None, None), a.tell("cell", None, None)
        b = House("b", a)
        first = a.tell("place", one, two, None)
        second = b.tell("place", two, one, None)
        a.hear(b)
        self.assertEqual(places(a.deeds())[2:], [(first, "done", (two,)), (second, "passed", (one, two))])
        self.check(a.deeds(), [(0, ""), (1, "")])
        a.tell("off", first)
        self.assertEqual(places(a.deeds())[2:], [(first, "off", None), (second, "done", (one,))])
        self.check(a.deeds(), [(0, ""), (1, "")])
        a.tell("on", first)
        self.assertEqual(places(a.deeds())[2:], [(first, "done", (two,)), (second, "passed", (one, two))])
        self.check(a.deeds())

    def test_a_late_place_of_a_lesser_mark(self):
        a = House("a")
        one, two, three = [a.tell("cell", None, None) for _ in range(3)]
        b = House("b", a)
        for _ in range(3):
            a.tell("write", one, None, "x")
        late = b.tell("place", three, one, None)
        first = a.tell("place", one, three, None)
        self.assertEqual(places(a.deeds())[-1], (first, "done", (three,)))
        book = added(a.deeds())
        a.hear(b)
        book.add(b.deeds()[-1])
        self.compare(book, a.deeds())
        self.assertEqual(book.places()[3:], [(late, "done", (one,)), (first, "passed", (three, one))])
        self.check(a.deeds(), [(0, ""), (0, "xxx"), (1, "")])

    def test_a_passed_place_leaves_the_cell_where_it_stood(self):
        a = House("a")
        one = a.tell("cell", None, None)
        two = a.tell("cell", None, None)
        a.tell("place", one, two, None)
        a.tell("place", two, one, None)
        a.tell("place", two, two, None)
        self.check(a.deeds(), [(0, ""), (1, "")])

    def test_what_is_not_shown_bars_all_the_same(self):
        a = House("a")
        top = a.tell("cell", None, None)
        mid = a.tell("cell", top, None)
        a.tell("drop", mid)
        a.tell("off", mid)
        move = a.tell("place", top, mid, None)
        self.assertEqual(places(a.deeds())[-1], (move, "passed", (mid, top)))
        self.check(a.deeds(), [(0, "")])

    def test_stands_of_one_cell_in_one_row(self):
        a = House("a")
        one, two, three = [a.tell("cell", None, None) for _ in range(3)]
        for cell, text in ((one, "1"), (two, "2"), (three, "3")):
            a.tell("write", cell, None, text)
        self.check(a.deeds(), [(0, "3"), (0, "2"), (0, "1")])
        move = a.tell("place", three, None, one)
        self.check(a.deeds(), [(0, "2"), (0, "1"), (0, "3")])
        a.tell("cell", None, three)
        self.check(a.deeds(), [(0, ""), (0, "2"), (0, "1"), (0, "3")])
        a.tell("off", move)
        self.check(a.deeds(), [(0, "3"), (0, ""), (0, "2"), (0, "1")])


class Shown(Case):

    def test_small(self):
        self.check(SMALL, [(0, "n"), (1, "two!")])
        self.assertEqual(notebook(SMALL), [
            (("a", 0), 0, ((("a", 1, 1), "n"),)),
            (("b", 0), 1, tuple((("b", 1, i), sign) for i, sign in enumerate("two!")))])

    def test_beneath_a_cell_that_is_not_shown(self):
        a = House("a")
        top = a.tell("cell", None, None)
        mid = a.tell("cell", top, None)
        low = a.tell("cell", mid, None)
        a.tell("write", low, None, "low")
        book = added(a.deeds())
        self.assertEqual((book.text(low), len(book)), ("low", 3))
        a.tell("drop", top)
        book.add(a.deeds()[-1])
        self.assertEqual((book.cells(), len(book)), ([], 0))
        for cell in (top, mid, low):
            self.refused(book.text, cell)
        self.assertEqual(len(book.signs(low)), 3)
        self.assertEqual(book.stands(top), [mid])
        a.tell("place", mid, None, top)
        book.add(a.deeds()[-1])
        self.assertEqual((book.text(mid), book.text(low), len(book)), ("", "low", 2))
        self.compare(book, a.deeds())
        self.check(a.deeds(), [(0, ""), (1, "low")])

    def test_rows_hold_what_is_struck_or_off_too(self):
        a = House("a")
        cell = a.tell("cell", None, None)
        text = a.tell("write", cell, None, "ab")
        a.tell("write", cell, text + (0,), "-")
        a.tell("strike", (text + (0,),))
        a.tell("off", text)
        moved = a.tell("place", cell, None, cell)
        a.tell("off", moved)
        book = added(a.deeds())
        self.assertEqual(book.signs(cell), [text + (0,), ("a", 2, 0), text + (1,)])
        self.assertEqual(book.stands(None), [cell, moved])
        self.check(a.deeds(), [(0, "-")])

    def test_cells_never_made(self):
        book = added(SMALL)
        for cell in (("a", 1), ("a", 2), ("b", 3), ("c", 0), ("a", 0, 0), "a:0", ("a",), 0, ["a", 0], ("a", False)):
            self.refused(book.signs, cell)
            self.refused(book.stands, cell)
            self.refused(book.text, cell)
        self.refused(book.signs, None)
        self.refused(book.text, None)
        self.refused(Notebook().stands, ("a", 0))

    def test_by_arguments_names(self):
        book = Notebook()
        self.assertIsNone(book.add(deed=SMALL[0]))
        self.assertEqual((book.signs(cell=("a", 0)), book.stands(parent=None), book.text(cell=("a", 0))), ([], [("a", 0)], ""))

    def test_deep(self):
        a = House("a")
        cell = a.tell("cell", None, None)
        a.tell("write", cell, None, "x")
        deeds, parent = list(a.deeds()), cell
        for k in range(2, 1500):
            deeds.append(("a", k, k, (("a", k),), ("cell", parent, None)))
            parent = ("a", k)
        book = added(deeds)
        self.assertEqual([depth for _, depth, _ in book.cells()], list(range(1499)))
        self.assertEqual(notebook(deeds), book.cells())
        self.assertEqual(book.text(parent), "")
        self.assertEqual(len(places(deeds)[-1][2]), 1498)

    def test_told_lists_are_new(self):
        book = added(SMALL)
        for ask in (book.cells, book.places, lambda: book.signs(("a", 0)), lambda: book.stands(None),
                    lambda: notebook(SMALL), lambda: places(SMALL), lambda: off_names(SMALL)):
            first = ask()
            kept = list(first)
            first.clear()
            self.assertEqual(ask(), kept)
            self.assertIsNot(ask(), ask())
        self.compare(book, SMALL)


class Chance(Case):

    def test_at_once_and_deed_by_deed(self):
        chance = random.Random(21)
        words = {}
        for _ in range(60):
            deeds = by_chance(chance, ["a", "b", "c"], 30)
            self.check(deeds)
            for _, word, _ in places(deeds):
                words[word] = words.get(word, 0) + 1
        self.assertTrue(all(words.get(word, 0) > 20 for word in ("off", "done", "passed")), words)

    def test_at_each_step(self):
        chance = random.Random(22)
        for _ in range(15):
            deeds = by_chance(chance, ["a", "b", "c"], 30)
            order = in_an_order(chance, deeds)
            book = Notebook()
            for many, one in enumerate(order):
                book.add(one)
                self.compare(book, order[:many + 1])

    def test_rows_stand_so(self):
        chance = random.Random(23)
        for _ in range(20):
            deeds = by_chance(chance, ["a", "b", "c"], 40)
            book = added(in_an_order(chance, deeds))
            for one in deeds:
                if one[4][0] == "cell":
                    puts = [(makers.mark(other), tuple(name(other) + (i,) for i in range(len(other[4][3]))), other[4][2])
                            for other in deeds if other[4][0] == "write" and other[4][1] == name(one)]
                    self.assertIsNone(barred(puts, book.signs(name(one))))


if __name__ == "__main__":
    unittest.main()
