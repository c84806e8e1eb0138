"""Moments of a house: whole ones, differences, who wrote, unaware, broken, back (points 2, 3, 32 to 36)."""

import itertools
import random
import unittest

from makers import A0, A1, A2, B0, ODD, SMALL, by_chance, deed, name, notebook_of
from plainhouse import PlainHouse, in_it, joined_of, page_at
from terms import fault, number, numbers
from test_house import with_texts

from leafround.errors import NoName
from leafround.house import House
from leafround.parcels import common, joined

CELL = ("cell", None, None)
A, B = ("a", 0), ("b", 0)


def house_of(deeds, hand="z"):
    house = House(hand)
    house.take(list(deeds))
    return house


def moments_of(house):
    """All whole moments of a house, few deeds told."""
    choices = [[(hand, many) for many in range(most + 1)] for hand, most in house.now()]
    tables = [tuple(pair for pair in choice if pair[1]) for choice in itertools.product(*choices)]
    return [table for table in tables if house.is_whole(table)]


class Case(unittest.TestCase):
    maxDiff = None


class Moments(Case):

    def test_of_a_name(self):
        house = house_of(SMALL)
        for one, due in ((("a", 0), (("a", 1),)), (("a", 2), (("a", 3),)), (("b", 0), (("a", 2), ("b", 1))), (("b", 2), (("a", 2), ("b", 3))), (("b", 3), (("a", 3), ("b", 4)))):
            self.assertEqual(house.moment_of(name=one), due)
            self.assertIs(house.is_whole(due), True)

    def test_of_no_name(self):
        house = house_of(SMALL + [deed("q", 1, 1, [("q", 1)], *CELL)])
        for thing in ODD + [("a", 3), ("q", 0), ("q", 1), ("z", 0), ("a", True), ("a", False), ["a", 0], ("a", -1), ("a", 0, 0), None]:
            if repr(thing) != repr(A):
                with self.assertRaises(NoName) as caught:
                    house.moment_of(thing)
                self.assertEqual(repr(vars(caught.exception)), repr({"name": thing}))

    def test_now(self):
        self.assertEqual(House("a").now(), ())
        self.assertEqual(house_of(SMALL).now(), (("a", 3), ("b", 4)))

    def test_whole_ones(self):
        house = house_of(SMALL)
        whole = [(), (("a", 1),), (("a", 2),), (("a", 3),), (("a", 2), ("b", 1)), (("a", 2), ("b", 2)), (("a", 2), ("b", 3)), (("a", 3), ("b", 1)), (("a", 3), ("b", 2)), (("a", 3), ("b", 3)),
                 (("a", 3), ("b", 4))]
        self.assertEqual(sorted(moments_of(house)), sorted(whole))
        for thing in ((("b", 1),), (("a", 1), ("b", 1)), (("a", 2), ("b", 4)), (("a", 4),), (("a", 3), ("b", 5)), (("a", 3), ("c", 1)), (("a", 10 ** 59),), (("b", 1), ("a", 2)), (("a", 0),),
                      (("a", True),), [("a", 1)], (["a", 1],), (("a", 1), ("a", 1))):
            self.assertIs(house.is_whole(thing=thing), False)

    def test_whole_of_anything(self):
        for thing in ODD:
            self.assertIs(house_of(SMALL).is_whole(thing), isinstance(thing, tuple) and thing == ())

    def test_what_waits_lies_in_no_moment(self):
        house = house_of([A0, B0])
        self.assertIs(house.is_whole((("a", 1), ("b", 1))), False)
        self.assertIs(house.is_whole((("a", 1),)), True)

    def test_joined_and_common_of_whole_ones_are_whole(self):
        chance = random.Random(321)
        for _ in range(10):
            house = house_of(by_chance(chance, "abc", 9))
            moments = moments_of(house)
            for _ in range(30):
                one, other = chance.choice(moments), chance.choice(moments)
                self.assertTrue(house.is_whole(joined(one, other)) and house.is_whole(common(one, other)))

    def test_by_chance(self):
        chance = random.Random(322)
        for _ in range(25):
            deeds = by_chance(chance, "abc", 14)
            house, plain = house_of(deeds), PlainHouse("z", deeds)
            for _ in range(30):
                table = tuple((hand, chance.randint(1, 7)) for hand in "abcd" if chance.random() < 0.7)
                self.assertIs(house.is_whole(table), plain.is_whole(table))
            for one in deeds:
                self.assertEqual(house.moment_of(name(one)), plain.moment_of(name(one)))
                self.assertTrue(house.is_whole(house.moment_of(name(one))))


class AtAMoment(Case):

    def test_all_is_as_it_was(self):
        """Told at each moment is what the house told then, whatever came behind."""
        house, was = House("a"), []
        other = House("b")
        for text in ("x = 1", "y = x + 1", "x = 3", "# so", "y", "p = p"):
            cell = house.tell(("cell", None, None))
            house.tell(("write", cell, None, text))
            if text == "y":
                house.tell(("drop", ("a", 0)))
            if text == "# so":
                other.take(house.deeds())
                other.tell(("place", ("a", 2), ("a", 4), None))
                house.take(other.deeds())
            was.append((house.now(), house.cells(), house.answers(), house.page(), house.page(width=20), house.papers()))
        house.tell(("off", ("a", 0)))
        for now, cells, answers, page, narrow, papers in was:
            self.assertEqual((house.cells(at=now), house.answers(at=now), house.page(at=now), house.page(at=now, width=20)), (cells, answers, page, narrow))
            self.assertEqual(house.papers(at=now), papers)
            self.assertEqual(house.page(at=now, top=1, rows=2), page[1:3])
            for cell, _, signs in cells:
                self.assertEqual("".join(text for _, _, text in house.wrote(cell, at=now)), "".join(sign for _, sign in signs))

    def test_at_no_deeds(self):
        house = house_of(SMALL)
        self.assertEqual((house.cells(at=()), house.answers(at=()), house.page(at=()), house.papers(at=())), ([], [], [], ([], [], [])))

    def test_by_chance(self):
        chance = random.Random(323)
        for _ in range(12):
            deeds = by_chance(chance, "abc", 12)
            house, plain = house_of(deeds), PlainHouse("z", deeds)
            for moment in moments_of(house):
                there = [one for one in deeds if in_it(one, moment)]
                self.assertEqual((house.cells(at=moment), house.page(at=moment), house.answers(at=moment)), (notebook_of(there), page_at(there, 60), plain.answers(moment)))
                self.assertEqual(house_of(there).page(), house.page(at=moment))


class Differences(Case):

    def test_some(self):
        house = house_of(SMALL)
        one, other = (("a", 1),), (("a", 2), ("b", 3))
        due = [(A, (None, 0, ""), (None, 0, "n")), (B, None, (A, 0, "two!"))]
        self.assertEqual(house.difference(one, other), due)
        self.assertEqual(house.difference(other=one, one=other), [(cell, there, here) for cell, here, there in due])
        self.assertEqual(house.difference(one, one), [])
        self.assertEqual(house.difference((), one), [(A, None, (None, 0, ""))])
        self.assertEqual(house.difference(one, ()), [(A, (None, 0, ""), None)])

    def test_places_among_shown_cells(self):
        house, cells = with_texts("a", "", "", "", "")
        before = house.now()
        house.tell(("drop", cells[1]))
        dropped = house.now()
        self.assertEqual(house.difference(before, dropped), [(cells[1], (None, 1, ""), None), (cells[2], (None, 2, ""), (None, 1, "")), (cells[3], (None, 3, ""), (None, 2, ""))])
        house.tell(("place", cells[3], cells[0], None))
        house.tell(("place", cells[2], cells[0], ("a", 5)))
        moved = house.now()
        self.assertEqual(house.difference(dropped, moved), [(cells[2], (None, 1, ""), (cells[0], 1, "")), (cells[3], (None, 2, ""), (cells[0], 0, ""))])

    def test_cells_deep_beneath_others(self):
        house = House("a")
        for parent in (None, ("a", 0), ("a", 1), ("a", 2), ("a", 1), ("a", 0), None):
            house.tell(("cell", parent, None))
        due = [(("a", 0), (None, 1, "")), (("a", 1), (("a", 0), 1, "")), (("a", 2), (("a", 1), 1, "")), (("a", 3), (("a", 2), 0, "")), (("a", 4), (("a", 1), 0, "")),
               (("a", 5), (("a", 0), 0, "")), (("a", 6), (None, 0, ""))]
        self.assertEqual([depth for _, depth, _ in house.cells()], [0, 0, 1, 1, 2, 2, 3])
        self.assertEqual(house.difference((), house.now()), [(cell, None, stand) for cell, stand in due])

    def test_another_stand_at_the_like_place_is_no_difference(self):
        house, cells = with_texts("a", "x", "")
        one = house.now()
        house.tell(("place", cells[1], None, cells[1]))
        house.tell(("strike", (("a", 1, 0),)))
        house.tell(("write", cells[0], None, "x"))
        self.assertEqual(house.difference(one, house.now()), [])

    def test_by_cells(self):
        chance = random.Random(331)
        deeds = [deed(hand, k, k, [(hand, k)] if k else [], *CELL) for hand in ("b", "a", "aa") for k in range(3)]
        chance.shuffle(deeds)
        house = house_of(deeds)
        self.assertEqual([cell for cell, _, _ in house.difference((), house.now())], sorted(name(one) for one in deeds))

    def test_laid_together(self):
        chance = random.Random(332)
        for _ in range(12):
            deeds = by_chance(chance, "ab", 12)
            house, plain = house_of(deeds), PlainHouse("z", deeds)
            moments = moments_of(house)
            for _ in range(20):
                one, two, three = [chance.choice(moments) for _ in range(3)]
                first, second = house.difference(one, two), house.difference(two, three)
                self.assertEqual(first, plain.difference(one, two))
                self.assertEqual(house.difference(two, one), [(cell, there, here) for cell, here, there in first])
                together = {cell: [here, there] for cell, here, there in first}
                for cell, here, there in second:
                    together[cell] = [together[cell][0] if cell in together else here, there]
                self.assertEqual(house.difference(one, three), [(cell, *together[cell]) for cell in sorted(together) if together[cell][0] != together[cell][1]])


class Wrote(Case):

    def test_runs(self):
        house = House("a")
        house.several([CELL, ("write", A, None, "abcdef")])
        other = House("b")
        other.take(house.deeds())
        other.tell(("write", A, ("a", 1, 2), "XY"))
        house.take(other.deeds())
        self.assertEqual(house.wrote(A), [("a", 1, "abc"), ("b", 0, "XY"), ("a", 1, "def")])
        house.tell(("strike", (("a", 1, 1), ("a", 1, 3), ("b", 0, 1))))
        self.assertEqual(house.wrote(A), [("a", 1, "ac"), ("b", 0, "X"), ("a", 1, "ef")])
        house.tell(("off", ("b", 0)))
        self.assertEqual(house.wrote(A), [("a", 1, "acef")])
        house.tell(("write", A, ("a", 1, 5), "g"))
        self.assertEqual(house.wrote(A), [("a", 1, "acef"), ("a", 4, "g")])
        self.assertEqual(house.wrote(A, at=(("a", 2), ("b", 1))), [("a", 1, "abc"), ("b", 0, "XY"), ("a", 1, "def")])

    def test_no_signs(self):
        house = House("a")
        house.tell(CELL)
        self.assertEqual(house.wrote(A), [])


class Unaware(Case):

    def both(self, base, ours, theirs):
        """Two houses that know the base's acts, and tell theirs unaware of one another; all of it heard by a."""
        a, b = House("a"), House("b")
        a.several(base)
        b.take(a.deeds())
        if ours:
            a.several(ours)
        if theirs:
            b.several(theirs)
        a.take(b.deeds())
        return a

    def test_each_way_to_touch_a_cell(self):
        base = [CELL, CELL, ("write", A, None, "abc"), ("place", A, None, None)]
        ways = [("place", A, ("a", 1), None), ("drop", A), ("write", A, None, "x"), ("write", A, ("a", 2, 0), "x"), ("strike", (("a", 2, 0),)), ("off", ("a", 2)), ("on", ("a", 3)), ("off", ("a", 0))]
        others = [CELL, ("cell", A, None), ("place", ("a", 1), A, None), ("drop", ("a", 1)), ("write", ("a", 1), None, "x"), ("off", ("a", 1))]
        for ours in ways + others:
            for theirs in ways + others:
                house = self.both(base, [ours], [theirs])
                pair = [(("a", 4), ("b", 0))]
                self.assertEqual(house.unaware(A), pair if ours in ways and theirs in ways else [], (ours, theirs))
                self.assertEqual(house.unaware(cell=("a", 1)), pair if ours in others[2:] and theirs in others[2:] else [], (ours, theirs))

    def test_neither_seen_by_the_other(self):
        house = self.both([CELL], [("write", A, None, "x")], [("write", A, None, "y")])
        house.tell(("write", A, None, "z"))
        self.assertEqual(house.unaware(A), [(("a", 1), ("b", 0))])

    def test_of_one_hand_none(self):
        house = House("a")
        house.several([CELL] + [("write", A, None, "x")] * 5)
        self.assertEqual(house.unaware(A), [])

    def test_the_lesser_mark_first_by_both_marks(self):
        house = self.both([CELL], [CELL, ("write", A, None, "x"), ("drop", A)], [("write", A, None, "y"), CELL, ("drop", A), ("drop", A)])
        marks = {("a", 2): (2, "a"), ("a", 3): (3, "a"), ("b", 0): (1, "b"), ("b", 2): (3, "b"), ("b", 3): (4, "b")}
        due = [(("b", 0), ("a", 2)), (("b", 0), ("a", 3)), (("a", 2), ("b", 2)), (("a", 2), ("b", 3)), (("a", 3), ("b", 2)), (("a", 3), ("b", 3))]
        self.assertEqual(house.unaware(A), due)
        self.assertEqual(due, sorted(due, key=lambda pair: (marks[pair[0]], marks[pair[1]])))

    def test_a_cell_that_isn_t_shown(self):
        house = self.both([CELL], [("drop", A)], [("drop", A)])
        self.assertEqual(house.unaware(A), [(("a", 1), ("b", 0))])

    def test_by_chance(self):
        chance = random.Random(341)
        for _ in range(30):
            deeds = by_chance(chance, "abc", 25)
            house, plain = house_of(deeds), PlainHouse("z", deeds)
            for one in deeds:
                if one[4][0] == "cell":
                    self.assertEqual(house.unaware(name(one)), plain.unaware(name(one)))


def replaced(house, cell, text):
    """Another text in a shown cell's place."""
    signs = [sign for shown, _, row in house.cells() if shown == cell for sign, _ in row]
    if signs:
        house.tell(("strike", tuple(sorted(signs))))
    house.tell(("write", cell, None, text))


def added(house, text):
    cell = house.tell(CELL)
    house.tell(("write", cell, None, text))
    return cell


class Broken(Case):

    def parted(self, *texts):
        """Two houses that have the same cells, and these."""
        a, cells = with_texts("a", *texts)
        b = House("b")
        b.take(a.deeds())
        return a, b, cells

    def breaks(self, a, b, *due):
        """What both break, told by each house, and the other way about."""
        one, other = a.now(), b.now()
        a.take(b.deeds())
        self.assertEqual(repr(a.broken(one, other)), repr(list(due)))
        self.assertEqual(repr(a.broken(other=one, one=other)), repr([(cell, answer, second, first) for cell, answer, first, second in due]))
        self.assertEqual(a.broken(one, other), PlainHouse("a", a.deeds()).broken(one, other))
        both = a.now()
        for moment in ((), one, other, both):
            self.assertEqual((a.broken(moment, both), a.broken(both, moment), a.broken(moment, moment)), ([], [], []))
        return one, other

    def test_twice_a_name(self):
        a, b, (y,) = self.parted("y = [x for x in [1]]")
        mine = added(a, "x = 1")
        added(b, "x = 2")
        z = added(b, "x + 3")
        reader = added(a, "x")
        # Each reads its own x; joined there are two.
        self.breaks(a, b, (reader, fault("twice", 0, reader), ("read", 0, ("x", "answer", mine, number(1))), ("unseen",)),
                    (z, fault("twice", 0, z), ("unseen",), ("read", 0, ("x", "answer", ("b", 0), number(2)))))

    def test_nobody_any_more(self):
        a, b, (x,) = self.parted("x = 4")
        reader = added(a, "1 + x")
        b.tell(("drop", x))
        self.breaks(a, b, (reader, fault("nobody", 4, reader), ("read", 0, ("x", "answer", x, number(4))), ("unseen",)))

    def test_a_ring_of_both(self):
        a, b, (x, y) = self.parted("x = 1", "y = 2")
        replaced(a, x, "x = y")
        replaced(b, y, "y = x")
        self.breaks(a, b, (x, ("fault", "ring", x), ("ring",), ("text",)), (y, ("fault", "ring", y), ("text",), ("ring",)))

    def test_a_ring_that_a_third_stands_on(self):
        a, b, (x, y, z) = self.parted("x = 1", "y = 2", "z = x")
        replaced(a, x, "x = y")
        replaced(b, y, "y = z")
        self.breaks(a, b, (x, ("fault", "ring", x), ("ring",), ("text",)), (y, ("fault", "ring", y), ("text",), ("ring",)), (z, ("fault", "ring", z), ("ring",), ("ring",)))

    def test_one_cell_s_text(self):
        a, b, (x,) = self.parted("x = 9")
        replaced(a, x, "x = 1")
        replaced(b, x, "x = 2")
        # Of like stamps b's mark is the greater, so that its text stands ahead: x = 2x = 1.
        self.breaks(a, b, (x, fault("source", 4, x), ("text",), ("text",)))

    def test_a_fault_at_one_already(self):
        a, b, (x,) = self.parted("x = 1 + 2")
        a.tell(("write", x, ("a", 1, 8), " * 3"))
        b.tell(("write", x, ("a", 1, 8), "'"))
        self.breaks(a, b)

    def test_signs_struck_by_both(self):
        a, b, (x,) = self.parted("x = 1 + 2")
        a.tell(("strike", tuple(("a", 1, number_) for number_ in (4, 5, 6, 7))))
        b.tell(("strike", tuple(("a", 1, number_) for number_ in (5, 6, 7, 8))))
        self.breaks(a, b, (x, fault("source", 4, x), ("text",), ("text",)))
        a, b, _ = self.parted("x = (1 + 2)")
        a.tell(("strike", (("a", 1, 4), ("a", 1, 10))))
        b.tell(("strike", (("a", 1, 6), ("a", 1, 7), ("a", 1, 8))))
        self.breaks(a, b)

    def test_the_first_note_that_is_otherwise(self):
        a, b, (x, y, f, r) = self.parted("x = 6", "y = 3", "f(n) = n // y", "[x, f(x), y]")
        replaced(a, x, "x = 5")
        replaced(b, y, "y = 0")
        self.assertEqual(dict(a.answers())[r], numbers(5, 1, 3))
        # b's own is a fault at b already.
        self.breaks(a, b)
        a, b, (x, y, f, r) = self.parted("x = 6", "y = 3", "f(n) = n // y", "[x, f(x), y]")
        replaced(a, x, "x = 0")
        replaced(b, f, "f(n) = y // n")
        self.breaks(a, b, (r, fault("nought", 7, f), ("read", 1, ("f", "text", f, "f(n) = n // y")), ("read", 0, ("x", "answer", x, number(6)))))

    def test_of_several_notes_the_first(self):
        a, b, (p, q, r, s) = self.parted("p = 1", "q = 2", "r = 3", "s = [p, q, r, 1 // (r - p - 1)]")
        replaced(a, q, "q = 20")
        replaced(a, p, "p = 10")
        replaced(b, r, "r = 11")
        # At b are p and q otherwise, at a r; joined r - p - 1 is 0.
        self.breaks(a, b, (s, fault("nought", 14, s), ("read", 2, ("r", "answer", r, number(3))), ("read", 0, ("p", "answer", p, number(1)))))

    def test_from_is_no_fault_of_its_own(self):
        a, b, (x, r) = self.parted("x = 1 // 0", "r = x + 1")
        replaced(a, x, "x = 'a'")
        b.tell(CELL)
        # At a r is a fault of its own; at b it is from.
        self.breaks(a, b)
        a, b, (x, y, r) = self.parted("x = 1 // y", "y = 0", "r = [x, y + 1]")
        replaced(a, x, "x = 2")
        replaced(b, y, "y = 'b'")
        self.breaks(a, b, (r, fault("kind", 8, r), ("read", 1, ("y", "answer", y, number(0))), ("read", 0, ("x", "answer", x, fault("kind", 4, x)))))
        # And joined it is none either.
        a, b, (x, y) = self.parted("x = 1", "y = x")
        replaced(a, x, "x = z")
        added(b, "z = 3 // 0")
        replaced(a, y, "y = x + 0")
        one, other = a.now(), b.now()
        a.take(b.deeds())
        self.assertEqual(dict(a.answers())[x], ("fault", "from", ("b", 0)))
        self.assertEqual(a.broken(one, other), [])

    def test_a_name_that_is_nobody_s_there(self):
        """A cell that asks a name only where another one answers so."""
        a, b, (x, r) = self.parted("x = 1", "r = [n for n in [0] if x == 2] + q")
        added(a, "q = [1]")
        replaced(b, x, "x = 2")
        one, other = a.now(), b.now()
        self.assertEqual(dict(b.answers())[r], fault("nobody", 33, r))
        a.take(b.deeds())
        self.assertEqual(dict(a.answers())[r], numbers(0, 1))
        self.assertEqual(a.broken(one, other), [])

    def test_a_name_that_is_twice_or_nobody_s_there(self):
        a, b, (x, y) = self.parted("x = [1, 2]", "y = [n // 0 for n in x if len(x) != 2]")
        replaced(b, y, "y = [n // 0 for n in x if len(x) != 0]")
        one, other = a.now(), b.now()
        a.take(b.deeds())
        self.assertEqual(a.broken(one, other), [])
        self.assertEqual(dict(b.answers())[y], fault("nought", 5, y))

    def test_another_text_that_takes_arguments(self):
        a, b, (x, r) = self.parted("x = 1", "r = x + 1")
        replaced(a, r, "r(n) = x + 1")
        replaced(b, r, "r = 7")
        # Joined it is r = 7r(n) = x + 1.
        self.breaks(a, b, (r, fault("source", 4, r), ("text",), ("text",)))

    def test_by_chance(self):
        texts = ["x = 1", "y = x + 1", "z = y + x", "x = z", "f(n) = n + x", "f(n) = 5 // n", "w = f(0)", "v = f(y)", "y = 0", "5 // y", "z = 'a'", "x + z", "w = v", "v = w",
                 "q = sum([x, y, z])", "f(2)"]
        chance, kinds = random.Random(351), set()
        for _ in range(150):
            a, b, _ = self.parted(*[chance.choice(texts) for _ in range(chance.randint(2, 6))])
            for house in (a, b):
                for _ in range(chance.randint(1, 4)):
                    cells, roll = [cell for cell, _, _ in house.cells()], chance.random()
                    if roll < 0.4 or not cells:
                        added(house, chance.choice(texts))
                    elif roll < 0.85:
                        replaced(house, chance.choice(cells), chance.choice(texts))
                    else:
                        house.tell((chance.choice(["drop", "off"]), chance.choice(cells)))
            one, other = a.now(), b.now()
            a.take(b.deeds())
            told = a.broken(one, other)
            self.assertEqual(told, PlainHouse("a", a.deeds()).broken(one, other))
            self.assertEqual(a.broken(other, one), [(cell, answer, second, first) for cell, answer, first, second in told])
            kinds |= {cause[0] for row in told for cause in row[2:]}
        self.assertEqual(kinds, {"unseen", "text", "ring", "read"})


class Back(Case):

    def test_some(self):
        house = House("a")
        house.several([CELL, ("write", A, None, "abc"), ("place", A, None, A)])
        first = house.now()
        self.assertEqual(house.back(first), [])
        self.assertEqual(house.back(moment=()), [("off", ("a", 0)), ("off", ("a", 1)), ("off", ("a", 2))])
        house.several([("off", ("a", 1)), CELL, ("drop", A)])
        self.assertEqual(house.back(first), [("on", ("a", 1)), ("off", ("a", 4)), ("off", ("a", 5))])
        house.several(house.back(first))
        self.assertEqual((house.back(first), house.cells()), ([], house.cells(at=first)))

    def test_offs_and_ons_are_named_by_none(self):
        house = House("a")
        house.several([CELL, ("off", A), ("on", A), ("off", A)])
        self.assertEqual(house.back((("a", 1),)), [("on", A)])
        self.assertEqual(house.back((("a", 2),)), [])
        self.assertEqual(house.back((("a", 3),)), [("on", A)])
        self.assertEqual(house.back(()), [])

    def test_by_names(self):
        deeds = [deed(hand, k, k, [(hand, k)] if k else [], *CELL) for hand in ("b", "a", "aa") for k in range(12)]
        self.assertEqual(house_of(deeds).back(()), [("off", (hand, k)) for hand in ("a", "aa", "b") for k in range(12)])

    def test_behind_them_all_is_as_it_was(self):
        chance = random.Random(361)
        for _ in range(25):
            deeds = by_chance(chance, "abc", 14)
            moments = moments_of(house_of(deeds))
            for moment in chance.sample(moments, min(8, len(moments))):
                for at_once in (True, False):
                    house = house_of(deeds)
                    plain = PlainHouse("z", deeds)
                    cells, answers, page = house.cells(at=moment), house.answers(at=moment), house.page(at=moment)
                    acts = house.back(moment)
                    self.assertEqual(acts, plain.back(moment))
                    if at_once:
                        house.several(acts)
                    else:
                        for act in acts:
                            house.tell(act)
                    self.assertEqual((house.cells(), house.answers(), house.page()), (cells, answers, page))
                    self.assertEqual(house.back(moment), [])
                    self.assertTrue({name(one) for one in deeds} <= {name(one) for one in house.deeds()})
                    # And forth again, to what was ahead of going back.
                    before = joined_of(*[house.moment_of(name(one)) for one in deeds])
                    page = house.page(at=before)
                    house.several(house.back(before))
                    self.assertEqual(house.page(), page)


if __name__ == "__main__":
    unittest.main()
