"""Rows of puts (point 7)."""

import itertools
import random
import unittest

from makers import row_of, shuffled, stands_so

from leafround.rows import Row, barred, plain_row


def put(stamp, hand, names, behind=None):
    return ((stamp, hand), tuple(names), behind)


def filled(puts):
    row = Row()
    for mark, names, behind in puts:
        row.put(mark, names, behind)
    return row


def by_chance(chance, many):
    """Puts of unlike marks, each behind a name put by a lesser one, or at the beginning."""
    marks = sorted(chance.sample([(stamp, hand) for stamp in range(many) for hand in "abc"], many))
    puts, names = [], [None]
    for number, mark in enumerate(marks):
        own = tuple((mark[1], number, i) for i in range(chance.choice([1, 1, 1, 2, 5])))
        puts.append((mark, own, chance.choice([chance.choice(names), names[-1], None])))
        names += own
    return puts


def orders(chance, puts):
    """Some order in which each comes behind its own."""
    left, there, told = list(puts), {None}, []
    while left:
        one = chance.choice([other for other in left if other[2] in there])
        left.remove(one)
        there.update(one[1])
        told.append(one)
    return told


class Plain(unittest.TestCase):

    def check(self, puts, due):
        for order in itertools.islice(itertools.permutations(puts), 200):
            handed = list(order)
            self.assertEqual(plain_row(handed), due)
            self.assertEqual(handed, list(order))

    def test_none_and_one(self):
        self.assertEqual(plain_row([]), [])
        self.assertEqual(plain_row(puts=[]), [])
        self.check([put(0, "a", ["x"])], ["x"])
        self.check([put(0, "a", ["x", "y", "z"])], ["x", "y", "z"])

    def test_at_the_beginning_the_greater_mark_ahead(self):
        self.check([put(0, "a", ["x"]), put(1, "a", ["y"])], ["y", "x"])
        self.check([put(0, "a", ["x"]), put(0, "b", ["y"])], ["y", "x"])
        self.check([put(2, "a", ["x"]), put(10, "a", ["y"]), put(2, "b", ["z"])], ["y", "z", "x"])
        self.check([put(0, "a", ["x", "u"]), put(0, "b", ["y", "v"])], ["y", "v", "x", "u"])

    def test_between_two_neighbours(self):
        row = [put(0, "a", ["x", "y"])]
        self.check(row + [put(1, "a", ["u"], "x")], ["x", "u", "y"])
        self.check(row + [put(1, "a", ["u"], "x"), put(2, "a", ["v"], "x")], ["x", "v", "u", "y"])
        self.check(row + [put(1, "a", ["u", "w"], "x"), put(2, "a", ["v"], "u")], ["x", "u", "v", "w", "y"])
        self.check(row + [put(1, "a", ["u"], "y"), put(2, "a", ["v"], "x")], ["x", "v", "y", "u"])

    def test_what_stands_behind_a_greater_one_goes_with_it(self):
        puts = [put(0, "a", ["x"]), put(1, "a", ["y"], "x"), put(2, "b", ["z"], "x"), put(3, "a", ["u"], "z"),
                put(4, "c", ["v"], "y")]
        self.check(puts, ["x", "z", "u", "y", "v"])

    def test_by_chance(self):
        chance = random.Random(11)
        for _ in range(200):
            puts = by_chance(chance, chance.randint(0, 14))
            row = plain_row(shuffled(chance, puts))
            self.assertEqual(row, row_of(puts))
            self.assertTrue(all(stands_so(puts, row, name) for name in row))

    def test_a_long_one(self):
        puts = [put(stamp, "a", [stamp], stamp - 1 if stamp else None) for stamp in range(3000)]
        self.assertEqual(plain_row(puts[::-1]), list(range(3000)))
        self.assertEqual(filled(puts).names(), list(range(3000)))
        self.assertIsNone(barred(puts, list(range(3000))))

    def test_told_lists_are_new(self):
        puts = [put(0, "a", ["x"])]
        plain_row(puts).clear()
        self.assertEqual(plain_row(puts), ["x"])
        plain_row([]).append(1)
        self.assertEqual(plain_row([]), [])


class Barred(unittest.TestCase):

    def due(self, puts, names):
        return next((name for name in names if not stands_so(puts, names, name)), None)

    def test_by_hand(self):
        puts = [put(0, "a", ["x", "y"]), put(1, "a", ["u"], "x"), put(2, "b", ["v"])]
        self.assertEqual(plain_row(puts), ["v", "x", "u", "y"])
        for names, due in (
            (["v", "x", "u", "y"], None), (["x", "v", "u", "y"], "v"), (["v", "x", "y", "u"], "u"),
            (["v", "u", "x", "y"], "u"), (["y", "x", "u", "v"], "y"), (["x", "y", "u", "v"], "u"),
            (["x", "u", "y", "v"], "v"), (["x", "u", "v", "y"], "v"), (["v", "y", "u", "x"], "y"),
        ):
            self.assertEqual(barred(puts, names), due, names)
            self.assertEqual(barred(puts=puts[::-1], names=names), due, names)

    def test_all_orders_of_a_few(self):
        chance = random.Random(12)
        for _ in range(60):
            puts = by_chance(chance, 3)[:3]
            row = plain_row(puts)
            for names in itertools.islice(itertools.permutations(row), 150):
                self.assertEqual(barred(puts, list(names)), self.due(puts, list(names)))

    def test_the_right_row_neighbours_exchanged_and_turned_about(self):
        chance = random.Random(13)
        for _ in range(100):
            puts = by_chance(chance, chance.randint(1, 12))
            row = plain_row(puts)
            handed = shuffled(chance, puts)
            self.assertIsNone(barred(handed, row))
            for at in range(len(row) - 1):
                names = row[:at] + [row[at + 1], row[at]] + row[at + 2:]
                self.assertEqual(barred(handed, names), self.due(puts, names))
                self.assertIsNotNone(barred(handed, names))
            names = row[::-1]
            self.assertEqual(barred(handed, names), self.due(puts, names))
            names = shuffled(chance, row)
            kept = list(names)
            self.assertEqual(barred(handed, names), self.due(puts, names))
            self.assertEqual(names, kept)

    def test_none(self):
        self.assertIsNone(barred([], []))


class Rows(unittest.TestCase):

    def test_empty(self):
        row = Row()
        self.assertEqual((row.names(), len(row), row.spot("x")), ([], 0, None))

    def test_puts(self):
        row = Row()
        self.assertIsNone(row.put((1, "a"), ("x", "y"), None))
        self.assertIsNone(row.put(mark=(0, "b"), names=("u",), behind=None))
        self.assertEqual(row.names(), ["x", "y", "u"])
        row.put((3, "a"), ("v",), "x")
        row.put((2, "a"), ("w", "z"), "x")
        self.assertEqual(row.names(), ["x", "v", "w", "z", "y", "u"])
        self.assertEqual(len(row), 6)

    def test_spots(self):
        row = filled([put(0, "a", ["x", "y"]), put(1, "a", ["u"], "x")])
        self.assertEqual([row.spot(name) for name in ("x", "u", "y")], [0, 1, 2])
        self.assertEqual(row.spot(name="y"), 2)
        for name in ("z", None, ("a", 0), 0, ""):
            self.assertIsNone(row.spot(name))

    def test_a_late_one_of_a_lesser_mark(self):
        row = filled([put(0, "a", ["x", "y"]), put(5, "a", ["u"], "x"), put(6, "a", ["v"], "u")])
        row.put((4, "b"), ("w",), "x")
        self.assertEqual(row.names(), ["x", "u", "v", "w", "y"])
        row.put((3, "b"), ("z",), None)
        self.assertEqual(row.names(), ["z", "x", "u", "v", "w", "y"])

    def test_any_order_that_has_each_behind_its_own(self):
        chance = random.Random(14)
        for _ in range(150):
            puts = by_chance(chance, chance.randint(0, 14))
            due = plain_row(puts)
            for _ in range(3):
                row = filled(orders(chance, puts))
                self.assertEqual((row.names(), len(row)), (due, len(due)))
                for spot, name in enumerate(due):
                    self.assertEqual(row.spot(name), spot)

    def test_told_lists_are_new_and_names_are_kept_as_they_were(self):
        row = filled([put(0, "a", ["x", "y"])])
        row.names().clear()
        self.assertEqual(row.names(), ["x", "y"])
        self.assertIsNot(row.names(), row.names())


if __name__ == "__main__":
    unittest.main()
