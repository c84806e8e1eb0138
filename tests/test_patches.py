"""Patches and tables of two pages (points 2, 40)."""

import copy
import itertools
import random
import unittest

from makers import ODD

from leafround.errors import NoPatch
from leafround.patches import is_patch, is_table, patch, put_on, table

BIG = 10 ** 60 - 1


def plain_put_on(lines, rows):
    """The lines that come out, or the number of the row that is refused."""
    left, told = list(lines), []
    for number, (word, what) in enumerate(rows):
        if word == "put":
            told += what
            continue
        if len(left) < what:
            return number
        told += left[:what] if word == "keep" else []
        left = left[what:]
    return len(rows) if left else told


def subsequences(lines):
    return {tuple(itertools.compress(lines, choice)) for choice in itertools.product([0, 1], repeat=len(lines))}


def most_common(old, new):
    """How many lines can be left of both, by looking at all that can."""
    return max(len(one) for one in subsequences(old) & subsequences(new))


def moved(rows):
    """How many lines are put and cut."""
    return sum(what if word == "cut" else len(what) for word, what in rows if word != "keep")


class Case(unittest.TestCase):
    maxDiff = None

    def leads(self, old, new, many):
        """A patch from old to new puts and cuts just so many lines."""
        before = copy.deepcopy((old, new))
        told = patch(old, new)
        self.assertEqual((old, new), before)
        self.assertEqual(plain_put_on(old, told), new)
        self.assertEqual(put_on(old, told), new)
        self.assertEqual(moved(told), many)
        self.form(told)
        self.assertIs(is_patch(old, new, told), True)
        self.assertEqual(table(old, new)[-1][-1] * 2, len(old) + len(new) - many)
        return told

    def form(self, told):
        self.assertIsInstance(told, list)
        for row in told:
            self.assertIsInstance(row, tuple)
            word, what = row
            if word == "put":
                self.assertTrue(isinstance(what, tuple) and len(what) > 0)
            else:
                self.assertIn(word, ("keep", "cut"))
                self.assertTrue(what > 0 and what.__class__ is int)
        for one, other in zip(told, told[1:]):
            self.assertNotEqual(one[0], other[0])


class Patches(Case):

    def test_pages_alike(self):
        self.assertEqual(self.leads(["a"], ["a"], 0), [("keep", 1)])
        self.assertEqual(self.leads(["a", "b", "a"], ["a", "b", "a"], 0), [("keep", 3)])

    def test_empty_ones(self):
        self.assertEqual(self.leads([], [], 0), [])
        self.assertEqual(self.leads([], ["a", "b"], 2), [("put", ("a", "b"))])
        self.assertEqual(self.leads(["a", "b"], [], 2), [("cut", 2)])
        self.assertEqual(self.leads([""], [], 1), [("cut", 1)])

    def test_nothing_in_common(self):
        told = self.leads(["a", "b"], ["c", "d", "e"], 5)
        self.assertEqual(sorted(word for word, _ in told if word == "cut" or word == "put"), ["cut", "put"])
        self.leads(["a"], ["A"], 2)
        self.leads(["a"], ["a "], 2)

    def test_lines_doubled(self):
        self.leads(["a"], ["a", "a"], 1)
        self.leads(["a", "a", "a"], ["a"], 2)
        self.leads(["a", "b", "a", "b"], ["b", "a", "b", "a"], 2)
        self.leads(["a"] * 5, ["a"] * 3 + ["b"] + ["a"] * 3, 2)

    def test_as_few_as_can_be(self):
        self.leads(["x", "a", "b", "c"], ["a", "b", "c", "x"], 2)
        self.leads(list("abcabba"), list("cbabac"), 5)
        self.leads(["head", "a", "tail"], ["head", "b", "tail"], 2)
        self.leads(list("xaxcxabc"), list("abcy"), 6)

    def test_all_small_pages(self):
        pages = [list(lines) for many in range(5) for lines in itertools.product("ab", repeat=many)]
        for old in pages:
            for new in pages:
                self.leads(old, new, len(old) + len(new) - 2 * most_common(old, new))

    def test_by_chance(self):
        chance = random.Random(401)
        for _ in range(150):
            old, new = [[chance.choice(["", "a", "b", "c", "dd"]) for _ in range(chance.randint(0, 8))] for _ in range(2)]
            self.leads(old, new, len(old) + len(new) - 2 * most_common(old, new))

    def test_long_pages(self):
        old = ["line %d" % place for place in range(400)]
        new = [line for place, line in enumerate(old) if place % 7] + ["more", "and more"]
        new.insert(100, "between")
        self.leads(old, new, 58 + 3)

    def test_by_the_names_shown(self):
        self.assertEqual(patch(new=["a", "b"], old=["a"]), [("keep", 1), ("put", ("b",))])
        self.assertEqual(put_on(patch=[("cut", 1), ("put", ("b",))], lines=["a"]), ["b"])
        self.assertIs(is_patch(thing=[("keep", 1)], new=["a"], old=["a"]), True)
        self.assertEqual(table(new=["a", "b"], old=["a"]), [[0, 0, 0], [0, 1, 1]])
        self.assertIs(is_table(thing=[[0, 0, 0], [0, 1, 1]], new=["a", "b"], old=["a"]), True)


class PutOn(Case):

    def puts(self, lines, rows, due):
        before = copy.deepcopy((lines, rows))
        self.assertEqual(put_on(lines, rows), due)
        self.assertEqual(plain_put_on(lines, rows), due)
        self.assertEqual((lines, rows), before)

    def refuses(self, lines, rows, place):
        with self.assertRaises(NoPatch) as caught:
            put_on(lines, rows)
        self.assertEqual(vars(caught.exception), {"row": place})
        self.assertEqual(plain_put_on(lines, rows), place)

    def test_some(self):
        self.puts([], [], [])
        self.puts(["a", "b", "c"], [("keep", 1), ("cut", 1), ("put", ("x", "y")), ("keep", 1), ("put", ("",))], ["a", "x", "y", "c", ""])
        self.puts(["a", "b"], [("put", ("x",)), ("cut", 2)], ["x"])
        self.puts(["a", "b"], [("cut", 1), ("put", ("x",)), ("cut", 1)], ["x"])

    def test_more_lines_than_are_left(self):
        self.refuses([], [("keep", 1)], 0)
        self.refuses([], [("cut", 1)], 0)
        self.refuses(["a"], [("keep", 2)], 0)
        self.refuses(["a"], [("put", ("x",)), ("cut", BIG)], 1)
        self.refuses(["a", "b"], [("keep", 1), ("put", ("x",)), ("cut", 2), ("put", ("y",))], 2)
        self.refuses(["a", "b"], [("keep", 2), ("cut", 1), ("put", ("y",)), ("cut", 1)], 1)

    def test_lines_are_left(self):
        self.refuses(["a"], [], 0)
        self.refuses(["a", "b"], [("keep", 1)], 1)
        self.refuses(["a", "b"], [("put", ("x",)), ("cut", 1), ("put", ("x",))], 3)

    def test_told_lists_are_new(self):
        lines = ["a", "b"]
        told = put_on(lines, [("keep", 2)])
        told.append("c")
        self.assertEqual(lines, ["a", "b"])

    def test_by_chance(self):
        chance = random.Random(402)
        for _ in range(500):
            lines = [chance.choice("ab") for _ in range(chance.randint(0, 5))]
            rows = [chance.choice([("keep", chance.randint(1, 3)), ("cut", chance.randint(1, 3)), ("put", ("x",) * chance.randint(1, 2))]) for _ in range(chance.randint(0, 5))]
            due = plain_put_on(lines, rows)
            if isinstance(due, int):
                self.refuses(lines, rows, due)
            else:
                self.puts(lines, rows, due)


class IsPatch(Case):

    def test_any_such(self):
        for thing in ([("cut", 1), ("put", ("b",))], [("put", ("b",)), ("cut", 1)]):
            self.assertIs(is_patch(["a"], ["b"], thing), True)
        for thing in ([("cut", 1), ("keep", 1), ("put", ("a",))], [("put", ("b",)), ("keep", 1), ("cut", 1)]):
            self.assertIs(is_patch(["a", "b"], ["b", "a"], thing), True)
        for thing in ([("cut", 1), ("put", ("c",)), ("cut", 1), ("put", ("d",))], [("put", ("c",)), ("cut", 2), ("put", ("d",))], [("cut", 2), ("put", ("c", "d"))]):
            self.assertIs(is_patch(["a", "b"], ["c", "d"], thing), True)
        self.assertIs(is_patch([], [], []), True)

    def test_two_rows_of_one_word_next_to_one_another(self):
        self.assertIs(is_patch(["a", "b"], ["a", "b"], [("keep", 2)]), True)
        self.assertIs(is_patch(["a", "b"], ["a", "b"], [("keep", 1), ("keep", 1)]), False)
        self.assertIs(is_patch(["a", "b"], [], [("cut", 1), ("cut", 1)]), False)
        self.assertIs(is_patch([], ["a", "b"], [("put", ("a",)), ("put", ("b",))]), False)

    def test_rows_that_keep_less(self):
        old, new = ["a", "b", "c"], ["a", "c", "b"]
        self.assertIs(is_patch(old, new, [("keep", 1), ("cut", 1), ("keep", 1), ("put", ("b",))]), True)
        self.assertIs(is_patch(old, new, [("keep", 1), ("put", ("c",)), ("keep", 1), ("cut", 1)]), True)
        self.assertIs(is_patch(old, new, [("keep", 1), ("cut", 2), ("put", ("c", "b"))]), False)
        self.assertIs(is_patch(old, new, [("cut", 3), ("put", ("a", "c", "b"))]), False)
        self.assertIs(is_patch(["a"], ["a"], [("cut", 1), ("put", ("a",))]), False)

    def test_that_lead_elsewhere(self):
        for thing in ([], [("keep", 1)], [("cut", 1)], [("put", ("b",))], [("cut", 1), ("put", ("c",))], [("put", ("b",)), ("keep", 1)], [("cut", 2), ("put", ("b",))],
                      [("cut", 1), ("put", ("b", "b"))], [("cut", 1), ("put", ("b",)), ("cut", 1)], [("cut", BIG), ("put", ("b",))]):
            self.assertIs(is_patch(["a"], ["b"], thing), False, thing)

    def test_numbers_of_rows(self):
        for many in (0, True, False, -1, "1", None, (1,), [1], ""):
            self.assertIs(is_patch(["a"], ["a"], [("keep", many)]), False, many)
            self.assertIs(is_patch(["a"], [], [("cut", many)]), False, many)
            self.assertIs(is_patch(["a"], ["a"], [("keep", 1), ("cut", many)]), False, many)
        self.assertIs(is_patch([], [], [("cut", 0)]), False)
        self.assertIs(is_patch(["a"], ["a"], [("put", ()), ("keep", 1)]), False)

    def test_lists_in_a_tuple_s_place(self):
        self.assertIs(is_patch(["a"], ["a"], (("keep", 1),)), False)
        self.assertIs(is_patch(["a"], ["a"], [["keep", 1]]), False)
        self.assertIs(is_patch([], ["a"], [("put", ["a"])]), False)
        self.assertIs(is_patch([], ["a"], [("put", "a")]), False)
        self.assertIs(is_patch([], [], ()), False)

    def test_lines_that_are_none(self):
        for line in (1, None, True, ("a",), ["a"], b"a"):
            self.assertIs(is_patch([], ["a"], [("put", (line,))]), False)

    def test_words(self):
        for word in ("Keep", "", "keeps", "Cut", "put", None, 0, True, ("keep",), ["keep"]):
            self.assertIs(is_patch(["a"], ["a"], [(word, 1)]), False)
            self.assertIs(is_patch(["a"], [], [(word, 1)]), False)
        for row in (("keep",), ("keep", 1, 1), (), "keep", ("keep", 1, None)):
            self.assertIs(is_patch(["a"], ["a"], [row]), False)

    def test_of_anything(self):
        for thing in ODD:
            self.assertIs(is_patch([], [], thing), isinstance(thing, list) and thing == [])
            self.assertIs(is_patch(["a"], ["b"], thing), False)
            self.assertIs(is_patch(["a"], ["a"], [("keep", 1), thing]), False)
            self.assertIs(is_patch(["a"], ["a"], [thing, ("keep", 1)]), False)
            self.assertIs(is_patch(["a"], ["a", "a"], [("keep", 1), ("put", thing)]), False)

    def test_all_small_ones(self):
        rows = [("keep", 1), ("keep", 2), ("cut", 1), ("cut", 2), ("put", ("a",)), ("put", ("b",)), ("put", ("a", "b"))]
        pages = [list(lines) for many in range(3) for lines in itertools.product("ab", repeat=many)]
        for many in range(4):
            for thing in itertools.product(rows, repeat=many):
                apart = all(one[0] != other[0] for one, other in zip(thing, thing[1:]))
                for old in pages:
                    told = plain_put_on(old, thing)
                    for new in pages:
                        due = apart and told == new and moved(thing) == len(old) + len(new) - 2 * most_common(old, new)
                        self.assertIs(is_patch(old, new, list(thing)), due)


class Tables(Case):

    def test_some(self):
        self.assertEqual(table([], []), [[0]])
        self.assertEqual(table(["a"], []), [[0], [0]])
        self.assertEqual(table([], ["a", "b"]), [[0, 0, 0]])
        self.assertEqual(table(["a", "b"], ["b", "a", "b"]), [[0, 0, 0, 0], [0, 0, 1, 1], [0, 1, 1, 2]])

    def test_by_chance(self):
        chance = random.Random(403)
        for _ in range(60):
            old, new = [[chance.choice("abc") for _ in range(chance.randint(0, 5))] for _ in range(2)]
            before = copy.deepcopy((old, new))
            told = table(old, new)
            due = [[most_common(old[:one], new[:other]) for other in range(len(new) + 1)] for one in range(len(old) + 1)]
            self.assertEqual(told, due)
            self.assertEqual((old, new), before)
            self.assertIs(is_table(old, new, told), True)
            self.assertEqual(len({id(row) for row in told}), len(told))
            self.bent(old, new, told)

    def bent(self, old, new, told):
        """One number otherwise, a truth, a row or a column left out or doubled."""
        for one, other in itertools.product(range(len(old) + 1), range(len(new) + 1)):
            for worth in (told[one][other] + 1, told[one][other] - 1, told[one][other] == 1, str(told[one][other]), None, [0], (0,)):
                thing = [list(row) for row in told]
                thing[one][other] = worth
                self.assertIs(is_table(old, new, thing), False)
        for one in range(len(old) + 1):
            self.assertIs(is_table(old, new, told[:one] + told[one + 1:]), False)
            self.assertIs(is_table(old, new, told[:one] + [told[one]] + told[one:]), False)
            self.assertIs(is_table(old, new, told[:one] + [tuple(told[one])] + told[one + 1:]), False)
            self.assertIs(is_table(old, new, told[:one] + [told[one][:-1]] + told[one + 1:]), False)
            self.assertIs(is_table(old, new, told[:one] + [told[one] + [0]] + told[one + 1:]), False)
        self.assertIs(is_table(old, new, tuple(told)), False)

    def test_of_other_pages(self):
        self.assertIs(is_table(["a"], ["a"], [[0, 0], [0, 1]]), True)
        self.assertIs(is_table(["a"], ["b"], [[0, 0], [0, 1]]), False)
        self.assertIs(is_table(["a"], ["a"], [[0, 0], [0, 0]]), False)

    def test_of_anything(self):
        for thing in ODD:
            self.assertIs(is_table([], [], thing), False)
            self.assertIs(is_table(["a"], ["b"], thing), False)
            self.assertIs(is_table(["a"], ["b"], [[0, 0], thing]), False)
            self.assertIs(is_table([], [], [[thing]]), isinstance(thing, int) and not isinstance(thing, bool) and thing == 0)


if __name__ == "__main__":
    unittest.main()
