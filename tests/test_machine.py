"""The machine: its rows, run again, in other worlds, without a call within a call (points 2, 16).

That it tells what meaning tells is looked at for each text and tree of test_meaning.py.
"""

import copy
import inspect
import random
import sys
import unittest

from plain import Maker, plain_meaning, world_by_chance
from terms import CELL, answer, body

from leafround.machine import rows_of, run
from leafround.meaning import meaning
from leafround.sources import told_as

OTHER = ("b", 3)


def lists_in(thing):
    """The ids of all lists within a thing."""
    found = [id(thing)] if isinstance(thing, list) else []
    if isinstance(thing, (list, tuple)):
        for part in thing:
            found += lists_in(part)
    return found


class Shallow:
    """Lets calls go only a few deeper than here."""

    def __enter__(self):
        self.limit = sys.getrecursionlimit()
        sys.setrecursionlimit(len(inspect.stack()) + 25)

    def __exit__(self, *_):
        sys.setrecursionlimit(self.limit)


class Rows(unittest.TestCase):

    def test_a_list_made_anew(self):
        tree = told_as("[x + 1 for x in [1, 2] if x < 2]")[-1]
        rows = rows_of(tree)
        self.assertIsInstance(rows, list)
        kept = copy.deepcopy(rows)
        rows.clear()
        self.assertEqual(rows_of(tree), kept)

        one, other = rows_of(tree), rows_of(tree)
        self.assertFalse(set(lists_in(one)) & set(lists_in(other)))

    def test_run_again_in_another_world_for_another_cell(self):
        tree = told_as("[f(x) // (y - i) for i in [1, 2]]")[-1]
        worlds = [
            {"f": body(("b", 0), "f(a) = a + y"), "x": answer(("number", 4)), "y": answer(("number", 9))},
            {"f": body(("b", 0), "f(a) = a * a"), "x": answer(("number", 4)), "y": answer(("number", 1))},
            {"f": body(("b", 0), "f(a, b) = a * a"), "x": answer(("number", 4))},
            {"f": body(("b", 0), "f(a) = a + 'a'"), "x": answer(("words", "b")), "y": answer(("fault", "ring", ("c", 1)))},
            {},
        ]
        rows = rows_of(tree)
        kept = copy.deepcopy(rows)
        for _ in range(2):
            for cell in (CELL, OTHER):
                for world in worlds:
                    for steps in (1000, 20, 7, 1, 0):
                        due = meaning(cell, tree, world, steps=steps)
                        self.assertEqual(run(cell, rows, world, steps=steps), due)
                        self.assertEqual(due, plain_meaning(cell, tree, world, steps))
                        self.assertEqual(rows, kept)
        self.assertEqual(run(OTHER, rows, {}), (("fault", "nobody", OTHER, 1), 6, [("f", ("nobody",))]))

    def test_a_copy_of_rows_runs(self):
        tree = told_as("if true then [1][0] else 2")[-1]
        self.assertEqual(run(CELL, copy.deepcopy(rows_of(tree)), {}), meaning(CELL, tree, {}))

    def test_the_tree_behind_changes_nothing(self):
        tree = told_as("let x = 2 in x * y")[-1]
        world = {"y": answer(("number", 3))}
        rows = rows_of(tree)
        del tree
        self.assertEqual(run(CELL, rows, world), (("number", 6), 5, [("y", world["y"])]))


class WithoutCallsWithinCalls(unittest.TestCase):

    def shallow(self, tree, world, steps=1000):
        due = meaning(CELL, tree, world, steps=steps)
        with Shallow():
            rows = rows_of(tree)
            told = run(CELL, rows, world, steps=steps)
        self.assertEqual(told, due)
        return told[0]

    def test_as_deep_as_can_be(self):
        tree = ("number", 0, 1)
        for _ in range(89):
            tree = ("minus", 0, tree)
        self.assertEqual(self.shallow(tree, {}), ("number", -1))
        for _ in range(400):
            tree = ("not", 0, tree)
        self.assertEqual(self.shallow(tree, {}), ("fault", "deep", CELL, 0))

    def test_calls_of_calls(self):
        world = {"d": body(("b", 0), "d(n) = if n < 1 then 0 else d(n - 1)")}
        self.assertEqual(self.shallow(told_as("d(43)")[-1], world), ("number", 0))
        self.assertEqual(self.shallow(told_as("d(99)")[-1], world)[:3], ("fault", "deep", ("b", 0)))

    def test_texts_as_deep_as_they_can_be(self):
        twelve = ("if true then ", " else 2"), ("[", "]"), ("(", ")"), ("-", ""), ("let x = 1 in ", ""), ("f(", ")"), ("text(", ")")
        world = {"f": body(("b", 0), "f(a) = a"), "x": answer(("number", 1)), "t": answer(("truth", True))}
        for opening, closing in twelve:
            self.shallow(told_as(opening * 12 + "x" + closing * 12)[-1], world)
        for text in ("+".join("x" * 200), "*".join("x" * 90), " and ".join("t" * 66), "x" + "[0]" * 130, " or ".join("t" * 80)):
            self.shallow(told_as(text)[-1], world)

    def test_by_chance(self):
        chance = random.Random(61)
        for _ in range(150):
            world = world_by_chance(chance)
            self.shallow(Maker(chance).tree(6), world, chance.choice([1000, chance.randint(0, 99)]))


class Chance(unittest.TestCase):

    def test_the_same_rows_in_many_worlds(self):
        chance = random.Random(62)
        worlds = [world_by_chance(chance) for _ in range(12)]
        for _ in range(60):
            tree = Maker(chance).tree(5)
            rows = rows_of(tree)
            kept = copy.deepcopy(rows)
            for world in worlds:
                cell = (chance.choice("abc"), chance.randint(0, 3))
                self.assertEqual(run(cell, rows, world), plain_meaning(cell, tree, world))
            self.assertEqual(rows, kept)


if __name__ == "__main__":
    unittest.main()
