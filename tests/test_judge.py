"""Papers of a page and its judge (points 2, 6, 14, 17, 19, 20, 41)."""

import copy
import itertools
import random
import unittest

from makers import ODD, A0, PlainHeard, deed, name, shuffled
from plain import PlainSheet, plain_whys, sheet_by_chance
from plainhouse import page_at, sheet_at

from leafround.errors import NoDeed
from leafround.judge import first_wrong, judged, papers_of
from leafround.whys import wrong_why


def deeds_of(*texts, parents=None):
    """A history of one hand: a cell for each text, each behind the one before; parents by numbers."""
    house, cells, last = PlainHeard("h"), [], {}
    for place, text in enumerate(texts):
        parent = None if parents is None or parents[place] is None else cells[parents[place]]
        cell = name(house.tell(("cell", parent, last.get(parent))))
        last[parent] = cell
        cells.append(cell)
        behind = None
        for at in range(0, len(text), 60):
            k = house.tell(("write", cell, behind, text[at:at + 60]))
            behind = name(k) + (len(k[4][3]) - 1,)
    return house.taken


def cells_of(deeds):
    return [cell for cell, _ in sheet_at(deeds)]


ENDLESS = "g(n) = g(n + 1)"
# On the page: 0 x = y + f(1), 1 y = z + 1, 2 z = 5, 3 f(n), 4 and 5 a ring, 6 on one through f's kin, 7 endless, ..
TEXTS = ("x = y + f(1)", "y = z + 1", "z = 5", "f(n) = n + z", "p = q", "q = p + x", "r = r", "g(0)", ENDLESS, "# x", "", "1 +", "7 // 0", "r + 1", "x")
DEEDS = deeds_of(*TEXTS)
CELLS = cells_of(DEEDS)
SHEET = sheet_at(DEEDS)
LINES = page_at(DEEDS, 60)


def papers():
    return papers_of(SHEET)


class Case(unittest.TestCase):
    maxDiff = None

    def judges(self, due, thing, lines=None, deeds=None, **more):
        deeds = DEEDS if deeds is None else deeds
        lines = LINES if lines is None else lines
        before = copy.deepcopy((deeds, lines, thing))
        self.assertEqual(repr(judged(deeds, lines, thing, **more)), repr(due))
        self.assertEqual(repr((deeds, lines, thing)), repr(before))


class Papers(Case):

    def told(self, sheet):
        before = copy.deepcopy(sheet)
        levels, rings, whys = told = papers_of(sheet)
        self.assertIsInstance(told, tuple)
        self.assertEqual(sheet, before)
        plain = PlainSheet(sheet)
        self.assertTrue(plain.are_levels(levels))
        self.assertEqual([cell for cell, _ in rings], [cell for cell, _ in sheet if plain.on_ring(cell)])
        for cell, ring in rings:
            self.assertTrue(isinstance(ring, list) and plain.is_ring(cell, ring))
        answers = dict(plain.fresh())
        due = [cell for cell, _ in sheet if plain.told[cell] is not None and not plain.takes(cell) and not plain.on_ring(cell)]
        self.assertEqual([cell for cell, _ in whys], due)
        for cell, rows in whys:
            given = {one[1] for one in plain.told.values() if one is not None and one[0] == "gives"}
            world = {x: plain.lead(x, answers) for x in given if plain.lead(x, answers) is not None}
            right = plain_whys(cell, plain.told[cell][-1], world)
            self.assertEqual(repr(rows), repr(None if isinstance(right, str) else right))
        for part in told:
            self.assertIsInstance(part, list)
            for pair in part:
                self.assertTrue(isinstance(pair, tuple) and len(pair) == 2)
        return told

    def test_of_no_cells(self):
        self.assertEqual(papers_of([]), ([], [], []))
        self.assertEqual(papers_of(sheet=[]), ([], [], []))

    def test_some(self):
        levels, rings, whys = self.told(SHEET)
        self.assertEqual([CELLS.index(cell) for cell, _ in levels], list(range(15)))
        self.assertEqual(rings, [(CELLS[4], [CELLS[4], CELLS[5]]), (CELLS[5], [CELLS[5], CELLS[4]]), (CELLS[6], [CELLS[6]])])
        self.assertEqual([(CELLS.index(cell), rows is None) for cell, rows in whys],
                         [(0, False), (1, False), (2, False), (7, True), (12, False), (13, False), (14, False)])
        self.assertEqual(whys[2], (CELLS[2], [(CELLS[2], 0, (), (), ("number", 5))]))

    def test_none_where_the_answer_is_steps_or_deep(self):
        deep = "d(n) = if n == 0 then 0 else 1 + d(n - 1)"
        told = self.told([(("a", 0), "d(20)"), (("a", 1), deep), (("a", 2), "d(60)"), (("a", 3), "y = d(60)"), (("a", 4), "y"), (("a", 5), "g(1)"),
                          (("a", 6), "g(n) = if n < 0 then 0 else 1 + g(n)")])
        self.assertEqual([(cell[1], rows is None) for cell, rows in told[2]], [(0, False), (2, True), (3, True), (4, False), (5, True)])

    def test_by_chance(self):
        chance = random.Random(411)
        for _ in range(120):
            self.told(sheet_by_chance(chance, chance.randint(1, 12)))

    def test_told_lists_are_new(self):
        first, again = papers(), papers()
        for part in first:
            part.append(1)
        first[1][0][1].clear()
        first[2][0][1].clear()
        self.assertEqual(papers(), again)
        self.assertIsNot(again[2][0][1], papers()[2][0][1])


class Right(Case):

    def test_at_widths(self):
        for width in (20, 21, 33, 60, 119, 120):
            self.judges(None, papers(), page_at(DEEDS, width), width=width)
        self.judges(None, papers())
        self.assertIsNone(judged(papers=papers(), lines=LINES, deeds=DEEDS, width=60))

    def test_of_another_width(self):
        self.assertNotEqual(page_at(DEEDS, 20), LINES)
        number = [one == other for one, other in zip(page_at(DEEDS, 20), LINES)].index(False)
        self.judges(("line", number, LINES[number]), papers(), page_at(DEEDS, 20))
        self.judges(None, papers(), page_at(DEEDS, 20), width=20)

    def test_of_no_cells(self):
        for deeds in ([], deeds_of("x")[:1] + [deed("h", 1, 1, [("h", 1)], "drop", ("h", 0))]):
            self.judges(None, ([], [], []), [], deeds)
            self.judges(("line", 0, None), ([], [], []), ["-"], deeds)
            self.judges(("levels", 0), ([(("h", 0), 0)], [], []), [], deeds)
            self.judges(("rings", 0), ([], [(("h", 0), [("h", 0)])], []), [], deeds)
            self.judges(("whys", 0), ([], [], [(("h", 0), None)]), [], deeds)

    def test_cells_beneath_others(self):
        deeds = deeds_of("x = 1", "y = x", "z = y + 1", "x + z", parents=[None, 0, 1, None])
        self.judges(None, papers_of(sheet_at(deeds)), page_at(deeds, 60), deeds)
        # Levels are in the page's order, wherever cells stand.
        swapped = deeds_of("a = b", "b = 1", "c = a", parents=[None, None, 0])
        self.assertEqual([cell[1] for cell in cells_of(swapped)], [0, 4, 2])
        self.judges(None, papers_of(sheet_at(swapped)), page_at(swapped, 60), swapped)

    def test_deeds_as_they_are_handed_in(self):
        """In any order, doubled, with wrong ones and such as wait among them."""
        chance = random.Random(412)
        wrong = deed("b", 0, 7, [("h", 1)], "drop", ("h", 0))
        waits = deed("c", 0, 9, [("h", 99)], "drop", ("h", 0))
        for _ in range(5):
            deeds = shuffled(chance, DEEDS + DEEDS[:7] + [wrong, waits])
            self.judges(None, papers(), deeds=deeds)
            self.assertIsNone(first_wrong(deeds, LINES))

    def test_higher_levels(self):
        levels, rings, whys = papers()
        self.judges(None, ([(cell, 3 * level + 5) for cell, level in levels], rings, whys))
        levels[0] = (levels[0][0], 10 ** 59)
        levels[14] = (levels[14][0], 10 ** 59 + 1)
        levels[4], levels[5] = [(cell, 10 ** 59 + 4) for cell in (CELLS[4], CELLS[5])]
        self.judges(None, (levels, rings, whys))

    def test_any_ring(self):
        texts = ("a = b + c", "b = a", "c = b")
        deeds = deeds_of(*texts)
        a, b, c = cells_of(deeds)
        levels, _, whys = papers_of(sheet_at(deeds))
        for one, other, third in itertools.product(([a, b], [a, c, b]), ([b, a], [b, a, c]), ([c, b, a],)):
            self.judges(None, (levels, [(a, one), (b, other), (c, third)], whys), page_at(deeds, 60), deeds)

    def test_whys_in_another_order(self):
        levels, rings, whys = papers()
        cell, rows = whys[0]
        rows_of = {number: row for number, row in enumerate(rows)}
        # The first row is a part without parts of its own: it may stand further on, its number is another then.
        moved = [rows_of[1], rows_of[0]] + rows[2:]
        swap = {0: 1, 1: 0}
        moved = [row[:3] + (tuple(swap.get(part, part) for part in row[3]),) + row[4:] for row in moved]
        self.assertIsNone(wrong_why(cell, PlainSheet(SHEET).told[cell][-1], world(), moved))
        whys[0] = (cell, moved)
        self.judges(None, (levels, rings, whys))

    def test_what_is_let_by_by_chance(self):
        chance = random.Random(413)
        for _ in range(60):
            sheet = sheet_by_chance(chance, chance.randint(1, 9))
            deeds = deeds_of(*[text for _, text in sheet if all(" " <= sign <= "~" for sign in text)])
            width = chance.choice([20, 60, 120])
            lines = page_at(deeds, width)
            self.judges(None, papers_of(sheet_at(deeds)), lines, deeds, width=width)
            self.assertIsNone(first_wrong(deeds, lines, width=width))


def world():
    plain = PlainSheet(SHEET)
    answers = dict(plain.fresh())
    given = {one[1] for one in plain.told.values() if one is not None and one[0] == "gives"}
    return {x: plain.lead(x, answers) for x in given if plain.lead(x, answers) is not None}


class NoDeeds(Case):

    def test_ahead_of_papers_that_are_none(self):
        for thing in (None, papers(), ([], [], [])):
            for deeds, place in (([None], 0), (DEEDS + [A0[:4]], len(DEEDS)), ([A0, list(A0)], 1), ([A0, 5, None], 1)):
                for call in (lambda: judged(deeds, ["?"], thing), lambda: first_wrong(deeds, ["?"])):
                    with self.assertRaises(NoDeed) as caught:
                        call()
                    self.assertEqual(vars(caught.exception), {"place": place})

    def test_of_anything(self):
        for thing in ODD:
            for call in (lambda: judged(DEEDS + [thing], LINES, papers()), lambda: first_wrong(DEEDS + [thing], LINES)):
                with self.assertRaises(NoDeed) as caught:
                    call()
                self.assertEqual(vars(caught.exception), {"place": len(DEEDS)})


class NoPapers(Case):

    def test_no_tuple_of_three_lists(self):
        levels, rings, whys = papers()
        for thing in ([levels, rings, whys], (levels, rings), (levels, rings, whys, []), (tuple(levels), rings, whys), (levels, tuple(rings), whys),
                      (levels, rings, tuple(whys)), (None, rings, whys), (levels, None, whys), (levels, rings, None), (), ("", "", ""), (levels, rings, 0), dict):
            self.judges(("papers", 0), thing, lines=["?"])

    def test_of_anything(self):
        for thing in ODD:
            self.judges(("papers", 0), thing)
            for place in range(3):
                parts = list(papers())
                parts[place] = thing
                if not isinstance(thing, list):
                    self.judges(("papers", 0), tuple(parts))


class Bent(Case):
    """One paper is bent in one place."""

    def bent(self, part, place, pair, due):
        """The pair of this number of this part is another one; None: left out; twice where it is told so."""
        parts = list(papers())
        if pair == "twice":
            parts[part].insert(place, parts[part][place])
        elif pair is None:
            parts[part].pop(place)
        else:
            parts[part][place:place + 1] = [pair]
        self.judges(due, tuple(parts))

    def exchanged(self, part, place, due):
        parts = list(papers())
        parts[part][place], parts[part][place + 1] = parts[part][place + 1], parts[part][place]
        self.judges(due, tuple(parts))


class Levels(Bent):

    def test_left_out_told_twice_exchanged(self):
        for place in range(15):
            self.bent(0, place, None, ("levels", place))
            self.bent(0, place, "twice", ("levels", place + 1))
            if place < 14:
                self.exchanged(0, place, ("levels", place))

    def test_too_many(self):
        levels, rings, whys = papers()
        for more in ((("z", 9), 0), levels[0], None):
            self.judges(("levels", 15), (levels + [more], rings, whys))
            self.judges(("levels", 0), ([more] + levels[1:], rings, whys) if more != levels[0] else ([], rings, whys))

    def test_that_are_no_whole_numbers(self):
        for level in (-1, True, False, None, "1", "", (1,), [1], -10 ** 59):
            for place in (0, 9, 14):
                self.bent(0, place, (CELLS[place], level), ("levels", place))

    def test_pairs(self):
        for place in (0, 8, 14):
            cell, level = papers()[0][place]
            for pair in ([cell, level], (cell,), (cell, level, level), (list(cell), level), (level, cell), cell, (("h", True), level), (None, level), ()):
                self.bent(0, place, pair, ("levels", place))

    def test_of_anything(self):
        for thing in ODD:
            if thing is not None:
                self.bent(0, 3, thing, ("levels", 3))
            self.bent(0, 3, (thing, 1), ("levels", 3))
            if not isinstance(thing, int) or isinstance(thing, bool) or thing < 0:
                self.bent(0, 3, (CELLS[3], thing), ("levels", 3))

    def test_along_a_lead_it_rises(self):
        level = dict(papers()[0])
        # f leads to z, and may stand as high, no lower.
        self.bent(0, 3, (CELLS[3], level[CELLS[2]]), None)
        self.bent(0, 2, (CELLS[2], level[CELLS[3]] + 1), ("levels", 1))
        # On a ring levels are alike.
        self.bent(0, 4, (CELLS[4], level[CELLS[4]] + 1), ("levels", 5))
        self.bent(0, 5, (CELLS[5], level[CELLS[5]] + 1), ("levels", 4))

    def test_out_of_a_cell_it_doesn_t_fall(self):
        level = dict(papers()[0])
        self.bent(0, 1, (CELLS[1], level[CELLS[2]]), ("levels", 1))
        self.bent(0, 0, (CELLS[0], level[CELLS[1]]), ("levels", 0))
        self.bent(0, 14, (CELLS[14], level[CELLS[0]]), ("levels", 14))
        self.bent(0, 13, (CELLS[13], level[CELLS[6]]), ("levels", 13))
        self.bent(0, 7, (CELLS[7], level[CELLS[8]]), ("levels", 7))

    def test_with_arguments_it_needn_t_fall(self):
        deeds = deeds_of("f(n) = g(n)", "g(n) = if n == 0 then 0 else f(n - 1) + x", "x = 1", "f(3)")
        cells = cells_of(deeds)
        _, rings, whys = papers_of(sheet_at(deeds))
        self.assertEqual(rings, [])
        for levels, due in (((0, 0, 0, 1), None), ((7, 7, 0, 8), None), ((1, 0, 0, 2), ("levels", 1)), ((0, 1, 0, 2), ("levels", 0)), ((0, 0, 1, 2), ("levels", 1)), ((0, 0, 0, 0), ("levels", 3))):
            self.judges(due, (list(zip(cells, levels)), rings, whys), page_at(deeds, 60), deeds)


class Rings(Bent):

    def test_left_out(self):
        """A cell of a ring that isn't named would have to fall out of itself."""
        self.bent(1, 0, None, ("levels", 4))
        self.bent(1, 1, None, ("levels", 5))
        self.bent(1, 2, None, ("levels", 6))
        levels, _, whys = papers()
        self.judges(("levels", 4), (levels, [], whys))

    def test_told_twice_and_exchanged(self):
        for place in range(3):
            self.bent(1, place, "twice", ("rings", place + 1))
        self.exchanged(1, 0, ("rings", 1))
        self.exchanged(1, 1, ("rings", 2))

    def test_begun_elsewhere(self):
        self.bent(1, 0, (CELLS[4], [CELLS[5], CELLS[4]]), ("rings", 0))
        self.bent(1, 1, (CELLS[5], [CELLS[4], CELLS[5]]), ("rings", 1))
        self.bent(1, 2, (CELLS[6], [CELLS[4], CELLS[5]]), ("rings", 2))

    def test_that_are_no_rings(self):
        p, q, r = CELLS[4:7]
        for ring in ([p], [p, q, p], [p, q, p, q], [p, p], [], [p, CELLS[0]], (p, q), None, [p, ("z", 1)], [p, None], [p, list(q)], "pq", [p, q, r]):
            self.bent(1, 0, (p, ring), ("rings", 0))

    def test_of_cells_on_none(self):
        x, y = CELLS[:2]
        for pair in ((x, [x]), (x, [x, y]), (CELLS[9], [CELLS[9]]), (CELLS[11], [CELLS[11]]), (("z", 9), [("z", 9)])):
            parts = papers()
            parts[1].insert(0, pair)
            self.judges(("rings", 0), parts)

    def test_of_cells_with_arguments(self):
        g = CELLS[8]
        parts = papers()
        parts[1].append((g, [g]))
        self.judges(("rings", 3), parts)

    def test_of_anything(self):
        for thing in ODD:
            parts = papers()
            parts[1].append(thing)
            self.judges(("rings", 3), parts)
            self.bent(1, 1, (thing, [CELLS[5], CELLS[4]]), ("rings", 1))
            self.bent(1, 1, (CELLS[5], thing), ("rings", 1))
            self.bent(1, 1, (CELLS[5], [CELLS[5], thing]), ("rings", 1))
            self.bent(1, 1, (CELLS[5], [CELLS[5], CELLS[4], thing]), ("rings", 1))

    def test_pairs(self):
        p, q = CELLS[4:6]
        for pair in ([p, [p, q]], (p,), (p, [p, q], 1), (list(p), [p, q]), p, ()):
            self.bent(1, 0, pair, ("rings", 0))

    def test_a_ring_through_a_cell_with_arguments(self):
        deeds = deeds_of("x = f(1)", "f(n) = n + x")
        x, f = cells_of(deeds)
        lines = page_at(deeds, 60)
        self.judges(None, papers_of(sheet_at(deeds)), lines, deeds)
        self.judges(None, ([(x, 3), (f, 3)], [(x, [x, f])], []), lines, deeds)
        self.judges(("rings", 1), ([(x, 3), (f, 3)], [(x, [x, f]), (f, [f, x])], []), lines, deeds)
        self.judges(("rings", 0), ([(x, 3), (f, 3)], [(f, [f, x])], []), lines, deeds)
        self.judges(("rings", 0), ([(x, 3), (f, 3)], [(x, [x])], []), lines, deeds)
        self.judges(("whys", 0), ([(x, 3), (f, 3)], [(x, [x, f])], [(x, None)]), lines, deeds)
        self.judges(("levels", 1), ([(x, 3), (f, 2)], [(x, [x, f])], []), lines, deeds)
        self.judges(("levels", 0), ([(x, 2), (f, 3)], [(x, [x, f])], []), lines, deeds)


class Whys(Bent):

    def test_left_out_told_twice_exchanged(self):
        for place in range(7):
            self.bent(2, place, None, ("whys", place))
            self.bent(2, place, "twice", ("whys", place + 1))
            if place < 6:
                self.exchanged(2, place, ("whys", place))

    def test_of_other_cells(self):
        """Of a ring's cell, a remark, an empty one, one that is no tree, one with arguments there are none."""
        right = papers()[2]
        for number in (3, 4, 6, 8, 9, 10, 11):
            place = len([cell for cell, _ in right if cell < CELLS[number]])
            for rows in (None, right[2][1]):
                parts = papers()
                parts[2].insert(place, (CELLS[number], rows))
                self.judges(("whys", place), parts)

    def test_pairs(self):
        for place in (0, 3, 6):
            cell, rows = papers()[2][place]
            for pair in ([cell, rows], (cell,), (cell, rows, rows), (list(cell), rows), cell, (), (cell, ()), (cell, ""), (cell, 0), (cell, False)):
                self.bent(2, place, pair, ("whys", place))

    def test_rows_whose_last_tells_no_answer(self):
        z = CELLS[2]
        for rows in ([], [None], [()], [(z, 0, (), ())], [(z, 0, (), (), ("number", 5), 1)], [[z, 0, (), (), ("number", 5)]], [(z, 0, (), (), None)], [(z, 0, (), (), ["number", 5])],
                     [(z, 0, (), (), ("number", True))], [(z, 0, (), (), ("number", 10 ** 60))], [(z, 0, (), (), ("truth", 1))], [(z, 0, (), (), ("fault", "kind", z))],
                     [(z, 0, (), (), ("fault", "Kind", z, 0))], [(z, 0, (), (), ("fault", "ring", z, 0))], [(z, 0, (), (), ("fault", "from", z, 0))], [(z, 0, (), (), ("fault", "source", z))],
                     [(z, 0, (), (), ("fault", "kind", "z", 0))], [(z, 0, (), (), ("fault", "kind", z, -1))], [(z, 0, (), (), ("fault", "kind", z, True))], [(z, 0, (), (), ("words", "a" * 401))],
                     [(z, 0, (), (), ("list", []))], [(z, 0, (), (), ("list", (("fault", "ring", z),)))], [(z, 0, (), (), ("number", 5)), None], [(z, 0, (), (), ("fault",))],
                     [(z, 0, (), (), ("fault", None, z, 0))], [(z, 0, (), (), ("fault", [], z, 0))], [(z, 0, (), (), "fault")], [(z, 0, (), (), ("fault", "ring", None))],
                     [(z, 0, (), (), ("fault", "kind"))], [(z, 0, (), (), ("fault", "kind", z, 0, 0))], [(z, 0, (), (), ("Fault", "ring", z))], [(z, 0, (), (), ("number", "kind", z, 0))],
                     [(z, 0, (), (), ("fault", "from", (z, 0)))], [(z, 0, (), (), ("fault", "nought", z, None))], [(z, 0, (), (), ())]):
            self.bent(2, 2, (z, rows), ("whys", 2))
            # It is told ahead of rows that aren't whys: those of x are of y's other answer then.
            parts = papers()
            parts[2][2] = (z, rows)
            parts[2][0] = (CELLS[0], [(CELLS[0], 0, (), (), ("number", 1))])
            self.judges(("whys", 2), parts)

    def test_rows_whose_last_tells_another_answer(self):
        """By their form these are answers: the rows alone tell that they aren't whys."""
        z = CELLS[2]
        for answer in (("number", 6), ("truth", True), ("words", ""), ("list", ()), ("fault", "kind", z, 0), ("fault", "steps", z, 0), ("fault", "source", z, 9), ("fault", "ring", z),
                       ("fault", "from", ("zz", 10 ** 59)), ("fault", "nobody", CELLS[0], 10 ** 59), ("number", -(10 ** 60 - 1))):
            parts = papers()
            parts[2][2] = (z, [(z, 0, (), (), answer)])
            # x, the first, leads to z: its rows aren't whys where z answers so.
            self.judges(("whys", 0), parts)
            parts[2][0] = (CELLS[0], None)
            self.judges(("whys", 0), parts)

    def test_rows_that_aren_t_whys(self):
        right = papers()[2]
        for place in (0, 1, 2, 4, 5, 6):
            cell, rows = right[place]
            for bad in (rows[1:], rows + rows, rows[:-1] + [rows[-1]] * 2, rows[:-1] + [(cell, 0, (("n", ("number", 1)),)) + rows[-1][3:]], [None] + rows, [()] + rows, rows[:-1] + [rows[-1][:3] + ((0, 0),) + rows[-1][4:]],
                        rows[:-1] + [(CELLS[3],) + rows[-1][1:]], rows[:-1] + [rows[-1][:1] + (1,) + rows[-1][2:]]):
                if bad:
                    self.bent(2, place, (cell, bad), ("whys", place))

    def test_each_row_bent(self):
        cell, rows = papers()[2][0]
        for number, row in enumerate(rows[:-1]):
            for part, worth in itertools.product(range(5), (None, 7, True, (), [], ("number", 99), ("a", 1), (("n", ("number", 1)),), (0,))):
                if repr(row[part]) != repr(worth):
                    bad = row[:part] + (worth,) + row[part + 1:]
                    self.bent(2, 0, (cell, rows[:number] + [bad] + rows[number + 1:]), ("whys", 0))
            self.bent(2, 0, (cell, rows[:number] + rows[number + 1:]), ("whys", 0))

    def test_none_where_the_answer_isn_t_steps_or_deep(self):
        for place in (0, 1, 2, 4, 5, 6):
            self.bent(2, place, (papers()[2][place][0], None), ("whys", place))

    def test_none_for_several(self):
        """They are read by rising levels: only then does each know what it leads to."""
        levels, rings, whys = papers()
        endless = [(cell, None) for cell, _ in whys]
        self.judges(("whys", 0), (levels, rings, endless))
        deeds = deeds_of("a = b + g(1)", "b = c + 1", "c = 1", ENDLESS)
        told = papers_of(sheet_at(deeds))
        self.assertEqual([rows is None for _, rows in told[2]], [True, False, False])
        self.judges(None, told, page_at(deeds, 60), deeds)
        for place in (1, 2):
            told = papers_of(sheet_at(deeds))
            told[2][place] = (told[2][place][0], None)
            self.judges(("whys", place), told, page_at(deeds, 60), deeds)

    def test_none_behind_one_with_none(self):
        """One whose answer is steps leads to another such: of it the answer is from."""
        deeds = deeds_of("a = b + 1", "b = g(1)", ENDLESS, "c = [b]")
        told = papers_of(sheet_at(deeds))
        self.assertEqual([rows is None for _, rows in told[2]], [False, True, False])
        self.judges(None, told, page_at(deeds, 60), deeds)
        told[2][0] = (told[2][0][0], None)
        self.judges(("whys", 0), told, page_at(deeds, 60), deeds)

    def test_rows_where_the_answer_is_steps(self):
        g = CELLS[7]
        for rows in ([(g, 0, (), (), ("fault", "steps", CELLS[8], 7))], [(g, 0, (), (), ("number", 1))], [(g, 1, (), (), ("number", 0)), (g, 0, (), (0,), ("fault", "steps", CELLS[8], 7))]):
            self.bent(2, 3, (g, rows), ("whys", 3))

    def test_answers_of_others_as_they_are_told(self):
        """A lie about y is told of the first pair that doesn't fit it; where all fit, of y's own."""
        levels, rings, whys = papers()
        y = CELLS[1]
        rows = [row if row[0] != y else row for row in whys[1][1]]
        rows[-1] = rows[-1][:4] + (("number", 60),)
        whys[1] = (y, rows)
        self.judges(("whys", 0), (levels, rings, whys))
        deeds = deeds_of("y = 2 + 3", "x = y + 1")
        y, x = cells_of(deeds)
        told = papers_of(sheet_at(deeds))
        lied = [(y, [(y, 1, (), (), ("number", 2)), (y, 2, (), (), ("number", 3)), (y, 0, (), (0, 1), ("number", 6))]),
                (x, [(x, 1, (), (), ("number", 6)), (x, 2, (), (), ("number", 1)), (x, 0, (), (0, 1), ("number", 7))])]
        self.judges(("whys", 0), (told[0], told[1], lied), page_at(deeds, 60), deeds)
        honest = [told[2][0], lied[1]]
        self.judges(("whys", 1), (told[0], told[1], honest), page_at(deeds, 60), deeds)

    def test_of_anything(self):
        for thing in ODD:
            self.bent(2, 2, (CELLS[2], [thing]), ("whys", 2))
            self.bent(2, 2, (thing, papers()[2][2][1]), ("whys", 2))
            if thing is not None:
                self.bent(2, 2, thing, ("whys", 2))
                self.bent(2, 2, (CELLS[2], thing), ("whys", 2))
            cell, rows = papers()[2][0]
            self.bent(2, 0, (cell, [thing] + rows), ("whys", 0))
            parts = papers()
            parts[2].append(thing)
            self.judges(("whys", 7), parts)


class Lines(Case):

    def test_each_line_bent(self):
        for number, line in enumerate(LINES):
            for other in (line + " ", " " + line, line[:-1], "", "?", line.upper() + "!"):
                lines = LINES[:number] + [other] + LINES[number + 1:]
                if other != line:
                    self.judges(("line", number, line), papers(), lines)
                    self.assertEqual(first_wrong(DEEDS, lines), (number, line))

    def test_one_too_many_and_too_few(self):
        for number in range(len(LINES)):
            self.judges(("line", number, LINES[number]), papers(), LINES[:number])
            self.assertEqual(first_wrong(DEEDS, LINES[:number]), (number, LINES[number]))
        for more in (["- x"], [""], ["", ""]):
            self.judges(("line", len(LINES), None), papers(), LINES + more)
            self.assertEqual(first_wrong(DEEDS, LINES + more), (len(LINES), None))

    def test_without_papers(self):
        self.assertIsNone(first_wrong(DEEDS, LINES))
        self.assertIsNone(first_wrong(lines=LINES, deeds=DEEDS, width=60))
        self.assertIsNone(first_wrong(DEEDS, page_at(DEEDS, 20), width=20))
        self.assertIsNone(first_wrong([], []))
        self.assertEqual(first_wrong([], ["-"]), (0, None))
        self.assertEqual(first_wrong(deeds_of("x = 1"), []), (0, "- x = 1"))
        self.assertEqual(first_wrong(deeds_of("x = 1"), ["- x = 1", "  = 2"]), (1, "  = 1"))

    def test_two_wrong_ones(self):
        lines = ["?"] + LINES[1:5] + ["?"] + LINES[6:]
        self.judges(("line", 0, LINES[0]), papers(), lines)


class TwoAtOnce(Case):
    """Of papers that are wrong in two places what is looked at first is told."""

    def test_the_document_s_order(self):
        cells = CELLS

        def levels_form(parts):
            parts[0][9] = (cells[9], -1)

        def ring(parts):
            parts[1][2] = (cells[6], [])

        def levels_fall(parts):
            parts[0][1] = (cells[1], dict(parts[0])[cells[2]])

        def whys_form(parts):
            parts[2][6] = (cells[14], [None])

        def whys_rows(parts):
            parts[2][4] = (cells[12], [(cells[12], 0, (), (), ("number", 1))])

        bends = [(levels_form, ("levels", 9)), (ring, ("rings", 2)), (levels_fall, ("levels", 1)), (whys_form, ("whys", 6)), (whys_rows, ("whys", 4))]
        for many in range(1, len(bends) + 1):
            for chosen in itertools.combinations(bends, many):
                parts = papers()
                for bend, _ in chosen:
                    bend(parts)
                self.judges(chosen[0][1], parts, ["?"])
        self.judges(("line", 0, LINES[0]), papers(), ["?"])
        self.judges(("papers", 0), ([None], [None], None), ["?"])

    def test_rings_left_out_ahead_of_whys(self):
        levels, rings, whys = papers()
        self.judges(("levels", 4), (levels, rings[1:], []))
        self.judges(("levels", 4), (levels, rings[1:], [(CELLS[4], None)] + whys))


if __name__ == "__main__":
    unittest.main()
