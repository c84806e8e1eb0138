"""Whys, told and judged (points 2, 15, 17)."""

import copy
import random
import unittest

from makers import ODD
from plain import Maker, Plain, plain_whys, plain_wrong, world_by_chance
from terms import CELL, answer, balanced, body, chain, fault, items, nested, num, number, numbers, truth, words

from leafround.errors import NoteError, NoWhy
from leafround.meaning import meaning
from leafround.sources import told_as
from leafround.whys import whys, wrong_why

F, G = ("b", 0), ("b", 1)
WORLD = {"x": answer(number(5)), "r": answer(("fault", "ring", ("c", 0)), ("c", 0)), "f": body(F, "f(a) = a + x"),
         "g": body(G, "g(a, b) = [a, f(b)]"), "t": ("twice",)}


def tree_of(text):
    return told_as(text)[-1]


def in_another_order(chance, rows):
    """The same rows, each behind its parts, the numbers of these told anew."""
    left, told, now = list(range(len(rows))), [], {}
    while left:
        ready = [number for number in left if all(part in now for part in rows[number][3])]
        one = chance.choice(ready)
        left.remove(one)
        now[one] = len(told)
        told.append(rows[one][:3] + (tuple(now[part] for part in rows[one][3]),) + rows[one][4:])
    return told


def with_field(rows, number, field, thing):
    row = list(rows[number])
    row[field] = thing
    return rows[:number] + [tuple(row)] + rows[number + 1:]


class Case(unittest.TestCase):
    maxDiff = None

    def tells(self, text, due, world=None):
        """Rows told by hand: without the cell where it is CELL."""
        world = WORLD if world is None else world
        tree = tree_of(text)
        before = copy.deepcopy((tree, world))
        rows = [row if len(row) == 5 else (CELL,) + row for row in due]
        with self.subTest(text=text):
            self.assertEqual(repr(whys(CELL, tree, world)), repr(rows))
            self.assertIsNone(wrong_why(CELL, tree, world, rows))
            self.assertEqual((tree, world), before)
            self.assertEqual(len(rows), meaning(CELL, tree, world)[1])
            self.assertEqual(rows[-1][4], meaning(CELL, tree, world)[0])

    def wrong(self, text, rows, due, world=None):
        world = WORLD if world is None else world
        tree = tree_of(text) if isinstance(text, str) else text
        before = copy.deepcopy((tree, world, rows))
        self.assertEqual(wrong_why(CELL, tree, world, rows), due)
        self.assertEqual((tree, world, rows), before)


class Told(Case):

    def test_plain_ones(self):
        self.tells("3", [(0, (), (), number(3))])
        self.tells("true", [(0, (), (), truth(True))])
        self.tells("'a b'", [(0, (), (), words("a b"))])
        self.tells("[]", [(0, (), (), items())])
        self.tells("x", [(0, (), (), number(5))])

    def test_operations(self):
        self.tells("1 + 2 * 3", [(1, (), (), number(1)), (3, (), (), number(2)), (4, (), (), number(3)), (2, (), (1, 2), number(6)),
                                 (0, (), (0, 3), number(7))])
        self.tells("-len([1, 'a'])", [(3, (), (), number(1)), (4, (), (), words("a")), (2, (), (0, 1), items(number(1), words("a"))),
                                      (1, (), (2,), number(2)), (0, (), (3,), number(-2))])
        self.tells("'ab'[1]", [(1, (), (), words("ab")), (2, (), (), number(1)), (0, (), (0, 1), words("b"))])
        self.tells("not 1 < 2", [(2, (), (), number(1)), (3, (), (), number(2)), (1, (), (0, 1), truth(True)), (0, (), (2,), truth(False))])

    def test_what_is_not_gone_into_has_no_row(self):
        self.tells("if true then 1 else 2", [(1, (), (), truth(True)), (2, (), (), number(1)), (0, (), (0, 1), number(1))])
        self.tells("if false then 1 + 1 else 2", [(1, (), (), truth(False)), (5, (), (), number(2)), (0, (), (0, 1), number(2))])
        self.tells("true or x", [(1, (), (), truth(True)), (0, (), (0,), truth(True))])
        self.tells("false and x", [(1, (), (), truth(False)), (0, (), (0,), truth(False))])
        self.tells("false or true", [(1, (), (), truth(False)), (2, (), (), truth(True)), (0, (), (0, 1), truth(True))])
        self.tells("true and true", [(1, (), (), truth(True)), (2, (), (), truth(True)), (0, (), (0, 1), truth(True))])

    def test_let(self):
        k = (("k", number(2)),)
        self.tells("let k = 2 in k * k", [(1, (), (), number(2)), (3, k, (), number(2)), (4, k, (), number(2)), (2, k, (1, 2), number(4)),
                                          (0, (), (0, 3), number(4))])
        both, again = (("a", number(1)), ("k", number(2))), (("k", number(1)),)
        self.tells("let k = 2 in let a = 1 in a", [(1, (), (), number(2)), (3, k, (), number(1)), (4, both, (), number(1)),
                                                   (2, k, (1, 2), number(1)), (0, (), (0, 3), number(1))])
        self.tells("let k = 2 in let k = 1 in k", [(1, (), (), number(2)), (3, k, (), number(1)), (4, again, (), number(1)),
                                                   (2, k, (1, 2), number(1)), (0, (), (0, 3), number(1))])

    def test_each(self):
        one, two = (("i", number(1)),), (("i", number(2)),)
        ahead = [(3, (), (), number(1)), (4, (), (), number(2)), (2, (), (0, 1), numbers(1, 2))]
        self.tells("[i for i in [1, 2]]", ahead + [(1, one, (), number(1)), (1, two, (), number(2)), (0, (), (2, 3, 4), numbers(1, 2))])
        self.tells("[7 for i in [1, 2] if i == 2]", ahead + [
            (6, one, (), number(1)), (7, one, (), number(2)), (5, one, (3, 4), truth(False)),
            (6, two, (), number(2)), (7, two, (), number(2)), (5, two, (6, 7), truth(True)), (1, two, (), number(7)),
            (0, (), (2, 5, 8, 9), numbers(7))])
        self.tells("[i for i in []]", [(2, (), (), items()), (0, (), (0,), items())])

    def test_calls(self):
        a = (("a", number(3)),)
        self.tells("f(3)", [(1, (), (), number(3)), (F, 1, a, (), number(3)), (F, 2, a, (), number(5)), (F, 0, a, (1, 2), number(8)),
                            (0, (), (0, 3), number(8))])
        both, b = (("a", number(1)), ("b", number(2))), (("a", number(2)),)
        self.tells("g(1, 2)", [
            (1, (), (), number(1)), (2, (), (), number(2)), (G, 1, both, (), number(1)), (G, 3, both, (), number(2)),
            (F, 1, b, (), number(2)), (F, 2, b, (), number(5)), (F, 0, b, (4, 5), number(7)), (G, 2, both, (3, 6), number(7)),
            (G, 0, both, (2, 7), numbers(1, 7)), (0, (), (0, 1, 8), numbers(1, 7))])

    def test_faults_are_answers(self):
        self.tells("1 // 0", [(1, (), (), number(1)), (2, (), (), number(0)), (0, (), (0, 1), fault("nought", 0))])
        due = fault("nobody", 5)
        self.tells("[1, -q, x]", [(1, (), (), number(1)), (3, (), (), due), (2, (), (1,), due), (0, (), (0, 2), due)])
        self.tells("t(1 // 0)", [(0, (), (), fault("twice", 0))])
        self.tells("f(1, 2)", [(0, (), (), fault("kind", 0))])
        self.tells("r", [(0, (), (), ("fault", "from", ("c", 0)))])
        a, due = (("a", words("")),), ("fault", "kind", F, 7)
        self.tells("f('')", [(1, (), (), words("")), (F, 1, a, (), words("")), (F, 2, a, (), number(5)), (F, 0, a, (1, 2), due),
                             (0, (), (0, 3), due)])
        self.tells("if 1 then 2 else 3", [(1, (), (), number(1)), (0, (), (0,), fault("kind", 0))])
        self.tells("false or 1", [(1, (), (), truth(False)), (2, (), (), number(1)), (0, (), (0, 1), fault("kind", 0))])
        due = fault("nought", 1)
        zero = (("i", number(0)),)
        self.tells("[1 // i for i in [0, 1]]", [
            (5, (), (), number(0)), (6, (), (), number(1)), (4, (), (0, 1), numbers(0, 1)), (2, zero, (), number(1)), (3, zero, (), number(0)),
            (1, zero, (3, 4), due), (0, (), (2, 5), due)])
        due = fault("nobody", 3)
        self.tells("if q then 1 else 2", [(1, (), (), due), (0, (), (0,), due)])
        due = fault("nobody", 8)
        self.tells("let k = q in 1", [(1, (), (), due), (0, (), (0,), due)])

    def test_steps_and_deep(self):
        deep = chain("minus", 90, num(1, 90))
        many = ("minus", 0, ("minus", 0, balanced(500)))
        for tree, word in ((deep, "deep"), (many, "steps"), (("list", 0, (num(1), deep)), "deep")):
            with self.assertRaises(NoWhy) as held:
                whys(CELL, tree, WORLD)
            self.assertEqual(held.exception.word, word)
            self.assertIsInstance(held.exception, NoteError)
        world = {"f": body(F, "f(n) = f(n)"), "g": body(G, "g(n) = sum([g(n - 1) for i in [1, 2] if 0 < n])")}
        for text, word in (("f(1)", "deep"), ("-g(12)", "steps"), ("[f(1)]", "deep")):
            with self.assertRaises(NoWhy) as held:
                whys(CELL, tree_of(text), world)
            self.assertEqual(held.exception.word, word)

    def test_just_as_many_and_as_deep_as_can_be(self):
        for tree in (("minus", 0, balanced(500)), chain("minus", 89, num(1, 89))):
            rows = whys(CELL, tree, {})
            self.assertEqual(len(rows), meaning(CELL, tree, {})[1])
            self.assertIsNone(wrong_why(CELL, tree, {}, rows))

    def test_told_lists_are_new(self):
        tree = tree_of("1 + x")
        first = whys(CELL, tree, WORLD)
        kept = list(first)
        first.clear()
        self.assertEqual(whys(CELL, tree, WORLD), kept)

    def test_by_the_names_shown(self):
        rows = whys(cell=CELL, tree=num(1), world={})
        self.assertIsNone(wrong_why(cell=CELL, tree=num(1), world={}, rows=rows))

    def test_of_texts_that_are_steps_or_deep(self):
        self.tells("'steps'", [(0, (), (), words("steps"))])
        self.tells("'deep'", [(0, (), (), words("deep"))])

    def test_of_faults_read_that_are_steps_or_deep(self):
        for word in ("steps", "deep"):
            world = {"x": answer(("fault", word, ("c", 0), 3), ("c", 0))}
            self.tells("x", [(0, (), (), ("fault", "from", ("c", 0)))], world)


TEXT = "let k = 2 in [f(i) for i in [k, 3] if i < 3]"


class Judged(Case):

    def setUp(self):
        self.rows = whys(CELL, tree_of(TEXT), WORLD)
        k, i, a = (("k", number(2)),), (("i", number(2)), ("k", number(2))), (("a", number(2)),)
        late = (("i", number(3)), ("k", number(2)))
        self.assertEqual(self.rows, [
            (CELL, 1, (), (), number(2)),
            (CELL, 6, k, (), number(2)), (CELL, 7, k, (), number(3)), (CELL, 5, k, (1, 2), numbers(2, 3)),
            (CELL, 9, i, (), number(2)), (CELL, 10, i, (), number(3)), (CELL, 8, i, (4, 5), truth(True)),
            (CELL, 4, i, (), number(2)), (F, 1, a, (), number(2)), (F, 2, a, (), number(5)), (F, 0, a, (8, 9), number(7)),
            (CELL, 3, i, (7, 10), number(7)),
            (CELL, 9, late, (), number(3)), (CELL, 10, late, (), number(3)), (CELL, 8, late, (12, 13), truth(False)),
            (CELL, 2, k, (3, 6, 11, 14), numbers(7)), (CELL, 0, (), (0, 15), numbers(7))])

    def field(self, number, field, thing, due):
        """A thing in a field's place: the first row that isn't so is due."""
        self.wrong(TEXT, with_field(self.rows, number, field, thing), due)

    def test_these_rows(self):
        self.wrong(TEXT, self.rows, None)

    def test_another_order(self):
        chance = random.Random(71)
        for _ in range(60):
            self.wrong(TEXT, in_another_order(chance, self.rows), None)

    def test_parts_behind_are_none(self):
        rows = list(self.rows)
        rows[0], rows[1] = rows[1], rows[0]
        self.wrong(TEXT, rows, 3)
        last = len(rows) - 1
        rows = with_field(self.rows, 3, 3, (1, 3))
        self.wrong(TEXT, rows, 3)
        self.field(3, 3, (1, 4), 3)
        self.field(last, 3, (0, last), last)
        self.field(3, 3, (1, last + 5), 3)
        self.field(3, 3, (1, -13), 3)

    def test_what_is_no_row(self):
        for thing in ODD + [(), (CELL, 1, (), ()), (CELL, 1, (), (), number(2), None), [CELL, 1, (), (), number(2)],
                            ((CELL, 1, (), (), number(2)),), b"", 1.5]:
            for number_ in (0, 3, 10, 16):
                rows = list(self.rows)
                rows[number_] = thing
                self.wrong(TEXT, rows, number_)
            self.wrong(TEXT, [thing], 0)

    def test_odd_things_in_each_field(self):
        for thing in ODD:
            for place in (3, 6, 10, 16):
                for field in range(5):
                    # A row that is given nothing is so made; it is wrong where that isn't so of its parts.
                    if repr(self.rows[place][field]) != repr(thing):
                        self.field(place, field, thing, place)

    def test_truths_where_numbers_stand(self):
        rows = whys(CELL, tree_of("[1, 0]"), {})
        self.assertEqual(rows, [(CELL, 1, (), (), number(1)), (CELL, 2, (), (), number(0)), (CELL, 0, (), (0, 1), numbers(1, 0))])
        for place, field, thing in ((0, 1, True), (2, 1, False), (2, 3, (False, 1)), (2, 3, (0, True)), (0, 4, number(True)), (1, 4, number(False)),
                                    (2, 4, numbers(True, 0)), (2, 4, numbers(1, False)), (0, 0, ("a", True)), (0, 4, truth(True)), (0, 4, truth(1))):
            self.wrong("[1, 0]", with_field(rows, place, field, thing), place, {})
        one = ("a", 1)
        tree = tree_of("1 // 0")
        rows = whys(one, tree, {})
        self.assertIsNone(wrong_why(one, tree, {}, rows))
        self.assertEqual(wrong_why(one, tree, {}, with_field(rows, 0, 0, ("a", True))), 0)
        self.assertEqual(wrong_why(one, tree, {}, with_field(rows, 2, 4, ("fault", "nought", ("a", True), 0))), 2)
        self.assertEqual(wrong_why(one, tree, {}, with_field(rows, 2, 4, ("fault", "nought", one, False))), 2)
        self.wrong("true", [(CELL, 0, (), (), truth(1))], 0)
        self.wrong("false", [(CELL, 0, (), (), truth(0))], 0)
        self.wrong("1", [(CELL, False, (), (), number(1))], 0)

    def test_lists_where_tuples_stand(self):
        for place, field in ((3, 3), (16, 3), (3, 2), (16, 2), (8, 0)):
            self.field(place, field, list(self.rows[place][field]), place)
        self.field(3, 4, ("list", [number(2), number(3)]), 3)
        self.field(3, 4, ["list", (number(2), number(3))], 3)
        self.field(3, 2, (["k", number(2)],), 3)
        self.field(0, 4, ["number", 2], 0)

    def test_a_part_that_is_one_already(self):
        self.wrong("[x, x]", [(CELL, 1, (), (), number(5)), (CELL, 0, (), (0, 0), numbers(5, 5))], 1)
        rows = [(CELL, 1, (), (), number(5)), (CELL, 2, (), (), number(5)), (CELL, 0, (), (0, 1), numbers(5, 5))]
        self.wrong("[x, x]", rows, None)
        self.wrong("[x, x]", rows + rows[-1:], 3)
        self.wrong("[f(1), f(1)]", [(CELL, 2, (), (), number(1)), (F, 1, (("a", number(1)),), (), number(1)),
                                    (F, 2, (("a", number(1)),), (), number(5)), (F, 0, (("a", number(1)),), (1, 2), number(6)),
                                    (CELL, 1, (), (0, 3), number(6)), (CELL, 4, (), (), number(1)), (CELL, 3, (), (5, 3), number(6)),
                                    (CELL, 0, (), (4, 6), numbers(6, 6))], 6)

    def test_a_part_of_another_cell_number_or_given(self):
        # Of like answers, so that the part alone is wrong.
        self.wrong("[x, x]", [(CELL, 2, (), (), number(5)), (CELL, 1, (), (), number(5)), (CELL, 0, (), (0, 1), numbers(5, 5))], 2)
        self.wrong("[x, x]", [(CELL, 2, (), (), number(5)), (CELL, 1, (), (), number(5)), (CELL, 0, (), (1, 0), numbers(5, 5))], None)
        self.wrong("-x", [(F, 2, (), (), number(5)), (CELL, 0, (), (0,), number(-5))], 1)
        self.wrong("-x", [(CELL, 1, (("x", number(5)),), (), number(5)), (CELL, 0, (), (0,), number(-5))], 1)
        self.wrong("-x", [(CELL, 1, (("y", number(5)),), (), number(5)), (CELL, 0, (), (0,), number(-5))], 1)
        self.field(10, 2, (("a", number(2)), ("k", number(2))), 10)
        self.field(5, 2, (("i", number(2)),), 6)
        self.field(5, 2, (), 6)
        self.field(0, 2, (("k", number(1)),), 16)
        self.field(3, 2, (), 3)
        self.field(8, 2, (("a", number(3)),), 8)
        self.field(9, 2, (("a", number(3)),), 10)

    def test_too_few_and_too_many_parts(self):
        self.field(3, 3, (1,), 3)
        self.field(3, 3, (), 3)
        self.field(3, 3, (1, 2, 0), 3)
        self.field(15, 3, (3, 6, 11), 15)
        self.field(15, 3, (3, 11, 6, 14), 15)
        self.field(15, 3, (3, 6, 14, 11), 15)
        self.field(16, 3, (15, 0), 16)
        self.field(0, 3, (), None)
        rows = [(CELL, 1, (), (), truth(True)), (CELL, 2, (), (), truth(True)), (CELL, 0, (), (0, 1), truth(True))]
        self.wrong("true or true", rows, 2)
        self.wrong("true and true", rows, None)
        self.wrong("true and true", [rows[0], (CELL, 0, (), (0,), truth(True))], 1)
        both = [(CELL, 1, (), (), truth(True)), (CELL, 2, (), (), number(1)), (CELL, 3, (), (), number(2))]
        self.wrong("if true then 1 else 2", both + [(CELL, 0, (), (0, 1, 2), number(1))], 3)
        self.wrong("if true then 1 else 2", both + [(CELL, 0, (), (0, 2), number(2))], 3)
        self.wrong("if true then 1 else 2", both + [(CELL, 0, (), (0, 1), number(1))], 4)

    def test_nothing_behind_a_fault(self):
        due = fault("nobody", 1)
        rows = [(CELL, 1, (), (), due), (CELL, 2, (), (), number(2)), (CELL, 0, (), (0,), due)]
        self.wrong("[q, 2]", rows[:1] + rows[2:], None)
        self.wrong("[q, 2]", rows, 3)
        self.wrong("[q, 2]", with_field(rows, 2, 3, (0, 1)), 2)
        self.wrong("[q, 2]", with_field(rows, 2, 3, (1,)), 2)

    def test_answers_that_parts_do_not_have(self):
        for place, thing in ((0, number(3)), (3, numbers(2, 3, 3)), (3, numbers(3, 2)), (6, truth(False)), (10, number(8)), (11, number(8)),
                             (15, numbers()), (15, number(7)), (16, numbers(8)), (16, items(numbers(7))), (9, number(4)),
                             (9, ("fault", "from", ("b", 1))), (10, fault("kind", 7, F)), (16, fault("great", 0)), (16, None), (16, "7"),
                             (16, fault("steps", 0)), (16, fault("deep", 0)), (0, fault("steps", 8)), (0, words("2")), (16, numbers(7) + (0,))):
            self.field(place, 4, thing, place)
        self.wrong("x", [(CELL, 0, (), (), ("fault", "nobody", CELL, 0))], 0)
        self.wrong("q", [(CELL, 0, (), (), ("fault", "twice", CELL, 0))], 0)
        self.wrong("q", [(CELL, 0, (), (), ("fault", "nobody", CELL, 1))], 0)
        self.wrong("q", [(CELL, 0, (), (), ("fault", "nobody", F, 0))], 0)
        self.wrong("q", [(CELL, 0, (), (), ("fault", "nobody", CELL))], 0)
        self.wrong("r", [(CELL, 0, (), (), ("fault", "from", CELL))], 0)
        self.wrong("r", [(CELL, 0, (), (), ("fault", "ring", ("c", 0)))], 0)
        self.wrong("q", [(CELL, 0, (), (), ("fault", "steps", CELL, 0))], 0)

    def test_the_first_of_several(self):
        rows = with_field(with_field(self.rows, 9, 4, number(9)), 3, 4, numbers(1))
        self.wrong(TEXT, rows, 3)
        rows = with_field(rows, 1, 1, 99)
        self.wrong(TEXT, rows, 1)

    def test_numbers_of_no_expression(self):
        for thing in (-1, 11, 12, 10 ** 59):
            for place in (0, 1, 5, 16):
                self.field(place, 1, thing, place)
        for thing in (-1, 3, 11):
            self.field(9, 1, thing, 9)
        self.field(0, 0, ("c", 1), 0)
        # An a stands at 1 there too, so the row is so, but no part of the one that names it.
        self.field(8, 0, G, 10)
        self.field(8, 0, ("b", 9), 8)

    def test_what_is_given(self):
        k, i = number(2), number(2)
        for thing in (
            (("k", k), ("i", i)), (("k", k), ("k", k)), (("i", i), ("k", fault("kind", 0))), (("k", ("fault", "ring", CELL)),), (("k", None),),
            (("k", number(True)),), (("k", truth(1)),), (("k",),), (("k", k, k),), ("k", k), (1,), ((1, k),), ((None, k),), ((("k",), k),), {"k": k},
            [("k", k)], None, "", "k", 0, True, (("k", ("number", "2")),), (("k", ("words", 2)),), (("k", ("list", [k])),), (("k", ("list", (2,))),),
            (("k", ("other", 2)),), (("k", ("other", ())),), (("k", (None, ())),), (("k", 2),), (("k", ("number", 2, 2)),), (("k", number(10 ** 60)),), (("k", number(-10 ** 60)),),
            (("k", words("a" * 401)),), (("k", numbers(*range(201))),), (("k", nested(5)),),
            (("k", ("list", (fault("kind", 0),))),), (("k", ["number", 2]),), (["k", k],), (("k", ()),), ((),), (("k", ("number",)),),
        ):
            for place in (0, 1, 2, 4, 7, 16):
                self.field(place, 2, thing, place)
        # What is so made is let by in the row, and looked at where it is a part.
        for thing in ((), (("zz", k),), (("", k),), (("A b", k), ("k", k)), (("k", number(3)),), (("k", words("a" * 400)),), (("k", numbers(*range(200))),),
                      (("k", number(1 - 10 ** 60)),), (("k", items(items(items(items())))),), (("k", truth(True)),), (("\u00e9", words("\u00e9")),)):
            self.field(2, 2, thing, 3)
            self.field(0, 2, thing, None if thing == () else 16)

    def test_the_last_is_not_the_trees(self):
        many = len(self.rows)
        self.wrong(TEXT, self.rows[:-1], many - 1)
        for length in range(many):
            self.wrong(TEXT, self.rows[:length], length)
        self.wrong("1", [(CELL, 0, (("k", number(1)),), (), number(1))], 1)
        self.wrong("-1", [(CELL, 1, (), (), number(1))], 1)
        world = {"f": body(F, "f(a) = 1")}
        self.wrong("1", [(F, 0, (), (), number(1))], 1, world)
        self.wrong("1", [(CELL, 0, (), (), number(1))], None, world)

    def test_another_is_no_part(self):
        one = (CELL, 1, (), (), number(1))
        self.wrong("-1", [one, one, (CELL, 0, (), (0,), number(-1))], 3)
        self.wrong("-1", [one, one, (CELL, 0, (), (1,), number(-1))], 3)
        whole = [one, (CELL, 0, (), (0,), number(-1))]
        self.wrong("-1", whole, None)
        self.wrong("-1", whole + [one], 3)
        self.wrong("-1", whole + [one, (CELL, 0, (), (2,), number(-1))], 4)
        self.wrong(TEXT, [(CELL, 0, (), (), number(1))] + self.rows, 0)
        self.wrong(TEXT, [(F, 2, (), (), number(5))] + [row[:3] + (tuple(part + 1 for part in row[3]),) + row[4:] for row in self.rows], 18)

    def test_more_than_a_thousand(self):
        tree = ("minus", 0, ("minus", 0, balanced(500)))
        plain = Plain(CELL, tree, {}, steps=5000)
        self.assertEqual(plain.told()[1], 1001)
        self.wrong(tree, plain.rows, 1001, {})
        tree = ("minus", 0, balanced(500))
        self.wrong(tree, whys(CELL, tree, {}), None, {})
        self.wrong(num(1), [(CELL, 0, (), (), number(1))] * 3000, 3000, {})
        self.wrong(num(1), [(CELL, 0, (), (), number(1))] * 3000 + [None], 3000, {})

    def test_more_than_ninety_deep(self):
        for many, due in ((90, None), (91, 91), (120, 120)):
            tree = chain("minus", many - 1, num(1))
            plain = Plain(CELL, tree, {}, deepest=1000)
            plain.told()
            self.assertEqual(len(plain.rows), many)
            self.wrong(tree, plain.rows, due, {})
        world = {"f": body(F, "f(n) = if n < 1 then 0 else f(n - 1)")}
        for many, due in ((43, None), (44, "len")):
            plain = Plain(CELL, tree_of("f(%d)" % many), world, deepest=1000)
            plain.told()
            self.wrong("f(%d)" % many, plain.rows, None if due is None else len(plain.rows), world)

    def test_no_rows(self):
        self.wrong(TEXT, [], 0)
        self.wrong("1", [], 0)

    def test_of_another_tree_world_or_cell(self):
        self.wrong(TEXT.replace("k = 2", "k = 4"), self.rows, 0)
        self.wrong(TEXT, self.rows, 9, dict(WORLD, x=answer(number(6))))
        self.wrong(TEXT, self.rows, 9, dict(WORLD, x=answer(fault("nought", 0))))
        self.wrong(TEXT, self.rows, 8, {"x": WORLD["x"]})
        self.wrong(TEXT, self.rows, 11, dict(WORLD, f=("twice",), h=body(F, "f(a) = a + x")))
        self.wrong(TEXT, self.rows, 11, dict(WORLD, f=body(("z", 0), "f(a) = a + x"), h=body(F, "f(a) = a + x")))
        self.assertEqual(wrong_why(("a", 8), tree_of(TEXT), WORLD, self.rows), 0)


class Chance(Case):

    def rows_by_chance(self, chance):
        while True:
            world = world_by_chance(chance)
            tree = Maker(chance).tree(chance.randint(1, 5))
            due = plain_whys(CELL, tree, world)
            if isinstance(due, str):
                with self.assertRaises(NoWhy) as held:
                    whys(CELL, tree, world)
                self.assertEqual(held.exception.word, due)
                continue
            self.assertEqual(repr(whys(CELL, tree, world)), repr(due))
            self.assertEqual(len(due), meaning(CELL, tree, world)[1])
            return tree, world, due

    def test_told_and_let_by(self):
        chance = random.Random(72)
        for _ in range(300):
            tree, world, rows = self.rows_by_chance(chance)
            self.wrong(tree, rows, None, world)
            self.wrong(tree, in_another_order(chance, rows), None, world)

    def test_rows_changed_by_chance(self):
        chance = random.Random(73)
        answers = [number(0), number(1), truth(True), truth(False), words("a"), items(), fault("kind", 1), fault("nobody", 1)]
        wrong = 0
        for _ in range(1200):
            tree, world, rows = self.rows_by_chance(chance)
            rows = in_another_order(chance, rows) if chance.random() < 0.3 else list(rows)
            place = chance.randrange(len(rows))
            row = rows[place]
            for_field = [
                lambda: chance.choice([CELL, ("h", 5), ("h", 6), ("z", 1)]),
                lambda: max(0, row[1] + chance.choice([-1, 1, 2])),
                lambda: chance.choice([(), row[2][:-1], row[2] + (("z", number(1)),), (("a", number(1)),)]),
                lambda: chance.choice([row[3][:-1], row[3] + (place - 1,), row[3][::-1], tuple(part - 1 for part in row[3])]),
                lambda: chance.choice(answers),
            ]
            roll = chance.random()
            if roll < 0.8:
                field = chance.randrange(5)
                rows = with_field(rows, place, field, for_field[field]())
            elif roll < 0.9:
                del rows[place]
            else:
                rows.insert(place, chance.choice(rows))
            rows = [row for row in rows if row[2] == tuple(sorted(row[2])) and len(dict(row[2])) == len(row[2])]
            due = plain_wrong(CELL, tree, world, rows)
            wrong += due is not None
            self.wrong(tree, rows, due, world)
        self.assertGreater(wrong, 800)


if __name__ == "__main__":
    unittest.main()
