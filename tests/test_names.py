"""What a sheet's texts give and name, and where its cells lead (points 2, 13, 18)."""

import copy
import random
import unittest

from plain import PlainSheet, edited, sheet_by_chance

from leafround.names import given_by, givers, leads, names_of


def sheet(*texts):
    """Cells of these texts, by number."""
    return [(("a", number), text) for number, text in enumerate(texts)]


def cells(*numbers):
    return [("a", number) for number in numbers]


NO_TREES = ("", "   ", "#", "# x = y", "  # x", "x =", "1 +", "x = (y", "X = y", "f(a, a) = b", "x = 1" + " " * 400, "y" * 9, "x = '", "x = y\n", "\u00e9",
            "x = \u00e9", "\ud800", "f() = x", "let = 1", "=", "x = 01")


class Texts(unittest.TestCase):

    def names(self, text, *due):
        before = str(text)
        self.assertEqual(names_of(text), list(due), text)
        self.assertEqual(text, before)

    def test_given_by(self):
        for text, due in (("x = 1", ("x", False)), ("  abcdefgh=x", ("abcdefgh", False)), ("x(a) = a", ("x", True)), ("f(a, b, c, d) = 1", ("f", True)),
                          ("x = x(1)", ("x", False)), ("x == 1", None), ("x", None), ("x(a)", None), ("1", None), ("let x = 1 in x", None)):
            self.assertEqual(given_by(text), due, text)
            if due is not None:
                self.assertIsInstance(given_by(text)[1], bool)
        for text in NO_TREES:
            self.assertIsNone(given_by(text), text)

    def test_names_of(self):
        self.names("1")
        self.names("x = y + x", "y", "x")
        self.names("b + a + b(a) + c", "b", "a", "c")
        self.names("f(b) = b + c + f(b)", "c", "f")
        self.names("if x then y else z", "x", "y", "z")
        self.names("true or x", "x")
        self.names("let x = x in x + y", "x", "y")
        self.names("let x = 1 in x(2) + y(x)", "y")
        self.names("[x + y for x in z if x == w]", "y", "z", "w")
        self.names("[x for x in x]", "x")
        self.names("len(x) + sum([y]) + text(z)", "x", "y", "z")
        self.names("g(a) = h(a)[a]", "h")
        self.names("'x' + y", "y")
        self.names("x = " + "+".join("y" * 150), "y")
        for text in NO_TREES:
            self.names(text)

    def test_told_again_the_same(self):
        names_of("x + y").clear()
        self.names("x + y", "x", "y")

    def test_by_the_names_shown(self):
        self.assertEqual(names_of(text="x"), ["x"])
        self.assertEqual(given_by(text="x = 1"), ("x", False))
        self.assertEqual(givers(sheet=[]), {})
        self.assertEqual(leads(sheet=[]), {})


class Sheets(unittest.TestCase):

    def test_givers(self):
        self.assertEqual(givers([]), {})
        self.assertEqual(givers(sheet("x = 1", "y(a) = x", "z", "# q = 1", "", "w = (")), {"x": cells(0), "y": cells(1)})
        self.assertEqual(givers(sheet("x = 1", "y = 2", "x(a) = a", "x = 1")), {"x": cells(0, 2, 3), "y": cells(1)})
        back = sheet("x = 1", "y = 2", "x(a) = a")[::-1]
        self.assertEqual(givers(back), {"x": cells(2, 0), "y": cells(1)})
        self.assertEqual(givers(sheet(*NO_TREES)), {})

    def test_leads(self):
        self.assertEqual(leads([]), {})
        self.assertEqual(leads(sheet("x = 1", "x + 2", "y")), {("a", 0): [], ("a", 1): cells(0), ("a", 2): []})
        self.assertEqual(leads(sheet("c + a + c + b", "a = 1", "b(i) = a", "c = b(1) + z")),
                         {("a", 0): cells(3, 1, 2), ("a", 1): [], ("a", 2): cells(1), ("a", 3): cells(2)})

    def test_by_none_one_and_two(self):
        self.assertEqual(leads(sheet("x"))[("a", 0)], [])
        self.assertEqual(leads(sheet("x", "x = 1"))[("a", 0)], cells(1))
        for other in ("x = 2", "x(a) = a", "x = x"):
            self.assertEqual(leads(sheet("x", "x = 1", other))[("a", 0)], [])
        for other in ("# x = 2", "x = ", "x == 2", "x", "y = x", "", "let x = 1 in x", "x = 2 +", "f(x) = x"):
            self.assertEqual(leads(sheet("x", "x = 1", other))[("a", 0)], cells(1))

    def test_to_themselves(self):
        self.assertEqual(leads(sheet("x = x + x")), {("a", 0): cells(0)})
        self.assertEqual(leads(sheet("f(n) = f(n)")), {("a", 0): cells(0)})
        self.assertEqual(leads(sheet("f(f) = f(1)")), {("a", 0): []})
        self.assertEqual(leads(sheet("x = let x = 1 in x")), {("a", 0): []})
        self.assertEqual(leads(sheet("x = y", "y = x")), {("a", 0): cells(1), ("a", 1): cells(0)})
        self.assertEqual(leads(sheet("x = x", "x = x")), {("a", 0): [], ("a", 1): []})

    def test_names_that_the_tree_gives(self):
        texts = ("x = 1", "let x = 2 in x", "[x for x in []]", "f(x) = x", "x(1)", "[y for x in x]")
        self.assertEqual(leads(sheet(*texts)), {("a", 0): [], ("a", 1): [], ("a", 2): [], ("a", 3): [], ("a", 4): cells(0), ("a", 5): cells(0)})

    def test_what_is_not_gone_into_leads_too(self):
        self.assertEqual(leads(sheet("if true then 1 else x", "x = 1"))[("a", 0)], cells(1))
        self.assertEqual(leads(sheet("1 // 0 + x", "x = 1"))[("a", 0)], cells(1))

    def test_remarks_empty_ones_and_texts_that_tell_none(self):
        self.assertEqual(leads(sheet("# x", "", "x = x +", "x", "x = 1")), {("a", 0): [], ("a", 1): [], ("a", 2): [], ("a", 3): cells(4), ("a", 4): []})
        for text in NO_TREES:
            self.assertEqual(leads(sheet(text, "y = x", "x = 1")), {("a", 0): [], ("a", 1): cells(2), ("a", 2): []})

    def test_the_order_of_dicts_and_lists(self):
        told = sheet("b + a", "a = 1", "b = 2")
        self.assertEqual(list(leads(told)), cells(0, 1, 2))
        self.assertEqual(leads(told)[("a", 0)], cells(2, 1))
        self.assertEqual(leads(told[::-1])[("a", 0)], cells(2, 1))

    def test_nothing_changed_and_all_told_anew(self):
        told = sheet("x = y", "y = 1", "y + x")
        before = copy.deepcopy(told)
        for tell in (givers, leads):
            due = copy.deepcopy(tell(told))
            first = tell(told)
            for key in list(first):
                first[key].append("z")
            first["z"] = []
            self.assertEqual(tell(told), due)
        self.assertEqual(told, before)
        first = leads(told)
        told.clear()
        self.assertEqual(first, leads(before))

    def test_by_chance(self):
        chance = random.Random(81)
        for _ in range(60):
            told = edited(chance, sheet_by_chance(chance, chance.randint(1, 12)))
            plain = PlainSheet(told)
            self.assertEqual(leads(told), {cell: plain.leads(cell) for cell, _ in told})
            found = givers(told)
            self.assertEqual(found, {name: plain.givers(name) for name in found})
            self.assertTrue(all(found.values()))
            for cell, text in told:
                self.assertEqual(names_of(text), plain.names(cell))
                if given_by(text) is not None:
                    self.assertIn(cell, found[given_by(text)[0]])
                    self.assertEqual(given_by(text)[1], plain.takes(cell))
            self.assertEqual(sum(len(found[name]) for name in found), sum(given_by(text) is not None for _, text in told))


if __name__ == "__main__":
    unittest.main()
