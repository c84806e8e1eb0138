"""Rings and levels, told and judged (points 2, 19, 20)."""

import copy
import itertools
import random
import unittest

from makers import ODD
from plain import PlainSheet, edited, sheet_by_chance
from test_names import cells, sheet

from leafround.rings import are_levels, is_ring, levels, ring_of

NAMES = ["".join(pair) for pair in itertools.product("abcdefgh", repeat=4)]


class Case(unittest.TestCase):

    def ring(self, told, number, *due):
        """The only ring of a cell, by numbers; none where none are told."""
        before = copy.deepcopy(told)
        cell, due = ("a", number), cells(*due) if due else None
        self.assertEqual(ring_of(told, cell), due)
        if due is not None:
            self.assertIs(is_ring(told, cell, due), True)
        self.assertEqual(told, before)

    def no_ring(self, told, number, thing):
        self.assertIs(is_ring(told, ("a", number), thing), False, thing)


class Rings(Case):

    def test_one_two_and_more(self):
        self.ring(sheet("x = x"), 0, 0)
        self.ring(sheet("x = x(1)"), 0, 0)
        self.ring(sheet("x = if true then 1 else x"), 0, 0)
        two = sheet("x = y", "y = x", "x + y", "z = 1")
        self.ring(two, 0, 0, 1)
        self.ring(two, 1, 1, 0)
        self.ring(two, 2)
        self.ring(two, 3)
        three = sheet("x = y", "y = z + 1", "z = [x]")
        for number in range(3):
            self.ring(three, number, number, (number + 1) % 3, (number + 2) % 3)

    def test_a_cell_that_leads_to_a_ring(self):
        told = sheet("w = x", "x = y", "y = x", "v = w")
        self.ring(told, 0)
        self.ring(told, 3)
        self.ring(told, 1, 1, 2)
        self.ring(sheet("w = x", "x = x"), 0)

    def test_through_cells_with_arguments(self):
        told = sheet("x = f(1)", "f(a) = a + x", "g(a) = g(a)", "y = g(1)")
        self.ring(told, 0, 0, 1)
        self.ring(told, 1)
        self.ring(told, 2)
        self.ring(told, 3)
        self.ring(sheet("f(a) = f(a)"), 0)
        self.ring(sheet("f(a) = h(a)", "h(a) = f(a) + x", "x = f(2)"), 2, 2, 0, 1)
        # f and h alone lead round to themselves, and take arguments.
        told = sheet("f(a) = h(a)", "h(a) = f(a)", "x = f(2)")
        for number in range(3):
            self.ring(told, number)

    def test_of_no_trees(self):
        for text in ("", "# x", "x = x +", "1"):
            told = sheet(text, "x = y", "y = x")
            self.ring(told, 0)
            self.ring(told, 1, 1, 2)
            for thing in ([], cells(0), cells(0, 1), cells(1, 2)):
                self.no_ring(told, 0, thing)

    def test_twice_given_names_lead_nowhere(self):
        for number in range(2):
            self.ring(sheet("x = x", "x = 1"), number)
        self.ring(sheet("x = y", "y = x", "y(a) = a"), 0)

    def test_a_cell_on_several_rings(self):
        told = sheet("x = y + z", "y = x", "z = w", "w = x")
        self.assertIn(ring_of(told, ("a", 0)), (cells(0, 1), cells(0, 2, 3)))
        for due in (cells(0, 1), cells(0, 2, 3)):
            self.assertTrue(is_ring(told, ("a", 0), due))
        self.ring(told, 1, 1, 0)
        self.ring(told, 2, 2, 3, 0)
        for thing in (cells(0, 1, 2, 3), cells(0, 2, 3, 1), cells(0, 3, 2), cells(0, 2), cells(0, 3), cells(0, 1, 0, 2, 3), cells(0)):
            self.no_ring(told, 0, thing)
        told = sheet("x = y", "y = z", "z = y + x")
        for thing in (cells(0, 1, 2), cells(0, 1)):
            self.assertEqual(is_ring(told, ("a", 0), thing), len(thing) == 3)
        for thing in (cells(1, 2), cells(1, 2, 0)):
            self.assertTrue(is_ring(told, ("a", 1), thing))

    def test_a_cell_that_is_not_there(self):
        self.ring(sheet("x = x"), 5)
        self.no_ring(sheet("x = x"), 5, cells(5))
        self.no_ring([], 0, [])

    def test_long_rings(self):
        many = 1500
        texts = [NAMES[number] + " = " + NAMES[(number + 1) % many] for number in range(many)]
        told = sheet(*texts)
        due = cells(*range(700, many), *range(700))
        self.assertEqual(ring_of(told, ("a", 700)), due)
        self.assertTrue(is_ring(told, ("a", 700), due))
        self.no_ring(told, 700, due[:-1])
        told[-1] = (("a", many - 1), "1")
        self.assertIsNone(ring_of(told, ("a", 700)))
        self.no_ring(told, 700, due)

    def test_told_lists_are_new(self):
        told = sheet("x = y", "y = x")
        ring_of(told, ("a", 0)).clear()
        self.ring(told, 0, 0, 1)

    def test_by_the_names_shown(self):
        told, cell = sheet("x = x"), ("a", 0)
        self.assertTrue(is_ring(sheet=told, cell=cell, thing=ring_of(sheet=told, cell=cell)))
        self.assertTrue(are_levels(sheet=told, thing=levels(sheet=told)))


class Judged(Case):

    told = sheet("x = y", "y = z", "z = x", "w = x", "f(a) = f(a) + x", "q = 1")

    def test_begun_elsewhere(self):
        for number in range(3):
            for thing in (cells(0, 1, 2), cells(1, 2, 0), cells(2, 0, 1)):
                self.assertIs(is_ring(self.told, ("a", number), thing), thing[0] == ("a", number))

    def test_twice_left_out_exchanged(self):
        for thing in (cells(0, 1, 2, 0), cells(0, 1, 2, 0, 1, 2), cells(0, 1), cells(0, 2), cells(0, 2, 1), cells(0), [], cells(0, 0), cells(0, 1, 1, 2),
                      cells(0, 1, 3), cells(3, 1, 2), cells(0, 1, 2, 3), cells(0, 1, 4), cells(0, 1, 5), cells(0, 1, 9), cells(9)):
            self.no_ring(self.told, 0, thing)

    def test_cells_that_are_on_none(self):
        for thing in (cells(3, 0, 1, 2), cells(3), cells(0, 1, 2), []):
            self.no_ring(self.told, 3, thing)
        for thing in (cells(4), cells(4, 0, 1, 2), []):
            self.no_ring(self.told, 4, thing)
        for thing in (cells(5), []):
            self.no_ring(self.told, 5, thing)

    def test_of_anything(self):
        right = cells(0, 1, 2)
        for thing in ODD + [tuple(right), str(right), right + [None], [None] + right, [[*one] for one in right], [("a", False), ("a", True), ("a", 2)],
                            [("a", 0), ("a", True), ("a", 2)], [right], {one: True for one in right}, [("a", 0), None, ("a", 2)], [("a", "0"), *right[1:]],
                            [("a", 0, 0), *right[1:]], [*right[:2], "a:2"], ["a:0", "a:1", "a:2"], [0, 1, 2], [(("a", 0),), *right[1:]], set(right)]:
            self.no_ring(self.told, 0, thing)
        self.assertTrue(is_ring(self.told, ("a", 0), right))
        one = sheet("x = x")
        for thing in ODD + [cells(0)[0], (cells(0)[0],), [None], [("a", False)], [["a", 0]], [True]]:
            self.no_ring(one, 0, thing)
        two = sheet("# no", "x = x")
        self.no_ring(two, 1, [("a", True)])
        self.assertTrue(is_ring(two, ("a", 1), cells(1)))


class Levels(Case):

    def level(self, told, *least):
        """Levels told are right; these are the least ones, and right too."""
        before = copy.deepcopy(told)
        found = levels(told)
        self.assertIsInstance(found, list)
        self.assertEqual([cell for cell, _ in found], [cell for cell, _ in told])
        self.assertTrue(PlainSheet(told).are_levels(found))
        self.assertIs(are_levels(told, found), True)
        due = [(cell, level) for (cell, _), level in zip(told, least)]
        self.assertIs(are_levels(told, due), True)
        for number, level in enumerate(least):
            if level > 0:
                self.assertIs(are_levels(told, due[:number] + [(due[number][0], level - 1)] + due[number + 1:]), False)
        self.assertIs(are_levels(told, [(cell, level + 7) for cell, level in due]), True)
        self.assertEqual(told, before)

    def test_chains(self):
        self.level([])
        self.level(sheet("1"), 0)
        self.level(sheet("x = 1", "y = x", "z = y + x"), 0, 1, 2)
        self.level(sheet("z = y + x", "y = x", "x = 1"), 2, 1, 0)
        self.level(sheet("x = y", "# y", "", "y = 1 +", "x + x + q"), 0, 0, 0, 0, 1)
        many = 1200
        told = sheet(*[NAMES[number] + " = " + NAMES[number + 1] for number in range(many)])
        self.assertTrue(are_levels(told, levels(told)))
        self.assertTrue(are_levels(told, [(cell, many - number) for number, (cell, _) in enumerate(told)]))
        self.assertFalse(are_levels(told, [(cell, many - max(number, 1)) for number, (cell, _) in enumerate(told)]))

    def test_cells_with_arguments_on_the_way(self):
        # Out of these a level has not to fall.
        self.level(sheet("x = 1", "f(a) = x + a", "y = f(1)", "g(a) = f(a) + y"), 0, 0, 1, 1)
        self.level(sheet("f(n) = f(n - 1)", "x = f(1)"), 0, 1)
        self.level(sheet("f(n) = g(n)", "g(n) = f(n) + x", "x = 1", "f(1)"), 0, 0, 0, 1)

    def test_rings(self):
        self.level(sheet("x = x"), 0)
        self.level(sheet("x = y", "y = x", "z = x", "w = z"), 0, 0, 1, 2)
        self.level(sheet("x = y + a", "y = x", "z = x", "a = b", "b = 1"), 1, 1, 2, 1, 0)
        self.level(sheet("x = f(1)", "f(a) = x", "y = f(2)"), 0, 0, 1)

    def test_higher_levels_that_are_right(self):
        told = sheet("x = 1", "y = x", "z = 1", "f(a) = a + y")
        for due in ((0, 1, 0, 1), (0, 1, 99, 1), (3, 4, 0, 4), (0, 5, 2, 7), (0, 10 ** 50, 0, 10 ** 50), (0, 1, 0, 2)):
            self.assertIs(are_levels(told, list(zip(cells(0, 1, 2, 3), due))), True)
        for due in ((0, 0, 0, 0), (1, 1, 0, 1), (2, 1, 0, 1), (0, 2, 0, 1), (0, 1, 0, 0)):
            self.assertIs(are_levels(told, list(zip(cells(0, 1, 2, 3), due))), False)

    def test_a_ring_has_one_level(self):
        told = sheet("x = y", "y = x")
        self.assertTrue(are_levels(told, list(zip(cells(0, 1), (4, 4)))))
        self.assertFalse(are_levels(told, list(zip(cells(0, 1), (4, 5)))))
        self.assertFalse(are_levels(told, list(zip(cells(0, 1), (5, 4)))))
        self.assertTrue(are_levels(sheet("x = x"), [(("a", 0), 3)]))

    def test_of_anything(self):
        told = sheet("x = 1", "y = x", "z = y")
        right = [(("a", 0), 0), (("a", 1), 1), (("a", 2), 2)]
        self.assertTrue(are_levels(told, right))

        def with_row(number, row):
            return right[:number] + [row] + right[number + 1:]

        for thing in ODD + [right[:-1], right[1:], right + right[-1:], right + [(("a", 3), 0)], right[:2] + right[:1], [right[1], right[0], right[2]], right[::-1],
                            tuple(right), dict(right), [list(row) for row in right], [row + (0,) for row in right], [row[:1] for row in right],
                            [row[0] for row in right], [row[1] for row in right], [row[::-1] for row in right], [(list(cell), level) for cell, level in right]]:
            self.assertIs(are_levels(told, thing), False, thing)
        for number, thing in ((0, (("a", 0), -1)), (0, (("a", 0), False)), (1, (("a", 1), True)), (0, (("a", 0), "0")), (0, (("a", 0), None)), (2, (("a", 2), "2")),
                              (2, (("a", 2), 3.5)), (1, (("a", True), 1)), (0, (("a", False), 0)), (2, (("b", 2), 2)), (2, (None, 2)), (2, ("a", 2)),
                              (2, ("a", 2, 2)), (2, None), (2, ()), (2, [("a", 2), 2]), (2, (("a", 2), (2,))), (1, (("a", 1), [1])), (0, ((("a",), 0), 0))):
            self.assertIs(are_levels(told, with_row(number, thing)), False, thing)
        for thing in ODD:
            self.assertIs(are_levels([], thing), thing == [] and isinstance(thing, list))
            for number in range(3):
                self.assertIs(are_levels(told, with_row(number, thing)), False)

    def test_told_lists_are_new(self):
        told = sheet("x = 1", "y = x")
        due = levels(told)
        levels(told).clear()
        self.assertEqual(levels(told), due)


class Chance(Case):

    def leading(self, chance, many):
        """A sheet of cells that give a name each, some with arguments, and lead to some of them."""
        texts = []
        for number in range(many):
            ahead = NAMES[number] + chance.choice(["", "", "(a)"])
            names = chance.sample(NAMES[:many], min(many, chance.choice([0, 0, 1, 1, 2])))
            texts.append(ahead + " = " + " + ".join(["1"] + names))
        return sheet(*texts)

    def test_by_chance(self):
        chance = random.Random(91)
        rings, wrong = 0, 0
        for number in range(100):
            many = chance.randint(1, 9)
            told = self.leading(chance, many) if number % 4 else edited(chance, sheet_by_chance(chance, many))
            plain, found = PlainSheet(told), levels(told)
            self.assertTrue(plain.are_levels(found))
            self.assertTrue(are_levels(told, found))
            for cell, _ in told:
                ring = ring_of(told, cell)
                self.assertEqual(ring is not None, plain.on_ring(cell))
                if ring is not None:
                    rings += 1
                    self.assertTrue(plain.is_ring(cell, ring) and is_ring(told, cell, ring))
                for _ in range(6):
                    thing = chance.sample(told, chance.randint(1, min(4, len(told))))
                    thing = [cell] + [one for one, _ in thing if one != cell][:3]
                    self.assertEqual(is_ring(told, cell, thing), plain.is_ring(cell, thing))
            for _ in range(8):
                thing = [(cell, max(0, level + chance.choice([0, 0, 0, 1, -1]))) for cell, level in found]
                wrong += not are_levels(told, thing)
                self.assertEqual(are_levels(told, thing), plain.are_levels(thing))
        self.assertGreater(rings, 60)
        self.assertGreater(wrong, 60)


if __name__ == "__main__":
    unittest.main()
