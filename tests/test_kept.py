"""Readings, fresh answers, the keeper and its rows judged (points 2, 21, 22, 23, 24)."""

import copy
import itertools
import random
import unittest

from makers import ODD
from plain import PlainKeeper, PlainSheet, edited, sheet_by_chance
from terms import fault, number, numbers, truth, words
from test_names import NO_TREES, cells, sheet

from leafround.kept import Keeper, fresh, reading, wrong_row

A = cells(*range(40))
NAMES = ["".join(pair) for pair in itertools.product("abcdefgh", repeat=4)]


def ring(cell):
    return ("fault", "ring", cell)


class Case(unittest.TestCase):
    maxDiff = None

    def reads(self, told, number_, answers, due, **more):
        """The reading of a cell; nothing that is handed in is changed."""
        before = copy.deepcopy((told, answers))
        self.assertEqual(repr(reading(told, A[number_], answers, **more)), repr(due))
        self.assertEqual((told, answers), before)

    def answers(self, told, *due, **more):
        """The fresh answers, by the cells without arguments that have one; a keeper tells them, too."""
        before = copy.deepcopy(told)
        found = fresh(told, **more)
        self.assertEqual(repr(found), repr(list(due)))
        self.assertEqual(repr(Keeper(**more).tell(told)), repr(found))
        self.assertEqual(told, before)


class Readings(Case):

    def test_answer_steps_and_notes(self):
        told = sheet("x = y + f(2) + y", "y = 3", "f(a) = a + z", "z = 4", "y + f(1)")
        answers = {A[1]: number(3), A[3]: number(4)}
        notes = [("y", "answer", A[1], number(3)), ("f", "text", A[2], "f(a) = a + z"), ("z", "answer", A[3], number(4))]
        self.reads(told, 0, answers, (number(12), 9, notes))
        self.reads(told, 1, {}, (number(3), 1, []))
        self.reads(told, 4, answers, (number(8), 7, notes))

    def test_nobody_and_twice(self):
        self.reads(sheet("q + 1"), 0, {}, (fault("nobody", 0, A[0]), 2, [("q", "nobody")]))
        self.reads(sheet("q(1)"), 0, {}, (fault("nobody", 0, A[0]), 1, [("q", "nobody")]))
        self.reads(sheet("1 + y", "y = 1", "y(a) = 1"), 0, {}, (fault("twice", 4, A[0]), 3, [("y", "twice")]))
        self.reads(sheet("1 + y", "y = 1", "y = 1"), 0, {A[1]: number(1), A[2]: number(1)}, (fault("twice", 4, A[0]), 3, [("y", "twice")]))

    def test_each_name_once_as_asked_first(self):
        told = sheet("b + a + b + f(a)", "a = 1", "b = 2", "f(b) = b + a + c", "c = 0")
        answers = {A[1]: number(1), A[2]: number(2), A[4]: number(0)}
        notes = [("b", "answer", A[2], number(2)), ("a", "answer", A[1], number(1)), ("f", "text", A[3], "f(b) = b + a + c"),
                 ("c", "answer", A[4], number(0))]
        self.reads(told, 0, answers, (number(7), 13, notes))
        self.reads(sheet("if true then 1 else b", "b = 1"), 0, {A[1]: number(1)}, (number(1), 3, []))
        self.reads(sheet("let b = 1 in b", "b = 1"), 0, {A[1]: number(1)}, (number(1), 3, []))

    def test_of_cells_with_arguments(self):
        self.reads(sheet("f", "f(a) = a"), 0, {}, (fault("kind", 0, A[0]), 1, [("f", "text", A[1], "f(a) = a")]))
        self.reads(sheet("f(1, 2)", "  f( a )=a"), 0, {}, (fault("kind", 0, A[0]), 1, [("f", "text", A[1], "  f( a )=a")]))
        told = sheet("y(1)", "y = 1")
        self.reads(told, 0, {A[1]: number(1)}, (fault("kind", 0, A[0]), 1, [("y", "answer", A[1], number(1))]))
        told = sheet("f(3)", "f(n) = if n < 1 then 0 else n + f(n - 1)")
        self.assertEqual(reading(told, A[0], {})[::2], (number(6), [("f", "text", A[1], told[1][1])]))

    def test_from_a_cell_whose_answer_is_a_fault(self):
        for given in (fault("kind", 3, A[1]), ring(A[1]), ("fault", "from", A[2]), fault("source", 0, A[1]), fault("steps", 4, A[3])):
            self.reads(sheet("1 + y", "y = 1"), 0, {A[1]: given}, (("fault", "from", A[1]), 3, [("y", "answer", A[1], given)]))

    def test_of_no_trees(self):
        for text in ("", "  ", "#", "# y"):
            self.reads(sheet(text, "y = 1"), 0, {A[1]: number(1)}, (None, 0, []))
        for text, at in (("x = ", 4), ("1 +", 3), ("x x", 2), ("f(a, a) = 1", 5), ("\u00e9", 0), ("1" * 61, 0), ("1" + " " * 400, 400), ("'", 0), ("x\n", 0)):
            self.reads(sheet(text), 0, {}, (fault("source", at, A[0]), 0, []))
            self.reads(sheet(text), 0, {}, (fault("source", at, A[0]), 0, []), steps=0)

    def test_bounds_of_steps(self):
        told = sheet("f(1) + y", "y = 1", "f(a) = a + y")
        answers = {A[1]: number(1)}
        whole = reading(told, A[0], answers)
        self.assertEqual(whole[:2], (number(3), 7))
        self.reads(told, 0, answers, whole, steps=7)
        self.reads(told, 0, answers, (fault("steps", 7, A[0]), 6, whole[2]), steps=6)
        self.reads(told, 0, answers, (fault("steps", 11, A[2]), 5, whole[2][:1]), steps=5)
        self.reads(told, 0, answers, (fault("steps", 0, A[0]), 0, []), steps=0)

    def test_other_answers_besides(self):
        told = sheet("y", "y = 1", "z = 2", "f(a) = a", "#")
        answers = {A[1]: number(9), A[2]: number(5), A[4]: None, A[30]: number(1), A[3]: number(7)}
        self.reads(told, 0, answers, (number(9), 1, [("y", "answer", A[1], number(9))]))
        self.reads(sheet("f(4)", "f(a) = a"), 0, {A[1]: number(7)}, (number(4), 2 + 1, [("f", "text", A[1], "f(a) = a")]))

    def test_told_lists_are_new(self):
        told = sheet("y", "y = 1")
        reading(told, A[0], {A[1]: number(1)})[2].clear()
        self.reads(told, 0, {A[1]: number(1)}, (number(1), 1, [("y", "answer", A[1], number(1))]))

    def test_by_the_names_shown(self):
        told = sheet("1")
        self.assertEqual(reading(sheet=told, cell=A[0], answers={}, steps=1), (number(1), 1, []))
        self.assertEqual(fresh(sheet=told, steps=0), [(A[0], fault("steps", 0, A[0]))])
        self.assertIsNone(wrong_row(held=[], sheet=told, thing=[(A[0], "read", ("new",))], steps=1))
        keeper = Keeper(steps=1, held=())
        self.assertEqual(keeper.tell(sheet=told), [(A[0], number(1))])


class Fresh(Case):

    def test_by_the_sheets_order(self):
        told = sheet("x + y", "x = y * 2", "f(a) = a", "y = 4", "", "# z", "z = f(x)", "1 +")
        due = [(A[0], number(12)), (A[1], number(8)), (A[3], number(4)), (A[4], None), (A[5], None), (A[6], number(8)), (A[7], fault("source", 3, A[7]))]
        self.answers(told, *due)
        for order in itertools.islice(itertools.permutations(range(8)), 0, 40320, 997):
            by_cell = dict(due)
            self.answers([told[place] for place in order], *[(A[place], by_cell[A[place]]) for place in order if A[place] in by_cell])
        self.answers([])

    def test_rings(self):
        told = sheet("x = y", "y = x", "z = x + 1", "w = 1 + z", "v = if true then 1 else x", "x = 1")
        self.answers(told[:5], (A[0], ring(A[0])), (A[1], ring(A[1])), (A[2], ("fault", "from", A[0])), (A[3], ("fault", "from", A[2])), (A[4], number(1)))
        # The name x is given twice, so no ring is left.
        self.answers(told, (A[0], ("fault", "from", A[1])), (A[1], fault("twice", 4, A[1])), (A[2], fault("twice", 4, A[2])),
                     (A[3], ("fault", "from", A[2])), (A[4], number(1)), (A[5], number(1)))
        self.answers(sheet("x = if true then 1 else x"), (A[0], ring(A[0])))
        self.answers(sheet("x = f(1)", "f(a) = a + x"), (A[0], ring(A[0])))
        self.answers(sheet("x = f(1)", "f(a) = f(a)"), (A[0], fault("deep", 9, A[1])))

    def test_through_cells_with_arguments(self):
        self.answers(sheet("f(2)", "f(a) = g(a) + 1", "g(a) = a * x", "x = y", "y = 5"), (A[0], number(11)), (A[3], number(5)), (A[4], number(5)))

    def test_chains_as_long_as_there_are_cells(self):
        for many in (20, 21, 1500):
            texts = [NAMES[place] + " = " + NAMES[place + 1] + " + 1" for place in range(many)] + [NAMES[many] + " = 1"]
            told = sheet(*texts)
            due = [(cell, number(many + 1 - place)) for place, (cell, _) in enumerate(told)]
            self.assertEqual(fresh(told), due)
            self.assertEqual(fresh(told[::-1]), due[::-1])

    def test_bounds_of_steps_are_each_cells_own(self):
        told = sheet("x = 1 + 2", "y = x + x", "z = -y + 1")
        self.answers(told, (A[0], number(3)), (A[1], number(6)), (A[2], number(-5)), steps=4)
        self.answers(told, (A[0], number(3)), (A[1], number(6)), (A[2], fault("steps", 9, A[2])), steps=3)
        self.answers(told, (A[0], fault("steps", 8, A[0])), (A[1], ("fault", "from", A[0])), (A[2], fault("steps", 5, A[2])), steps=2)
        # What is called counts; what is read doesn't.
        told = sheet("f(1)", "f(a) = a + g(a)", "g(a) = a")
        self.answers(told, (A[0], number(2)), steps=7)
        self.answers(told, (A[0], fault("steps", 7, A[2])), steps=6)

    def test_depth_is_each_cells_own(self):
        texts = [NAMES[place] + " = " + "-" * 12 + NAMES[place + 1] for place in range(30)] + [NAMES[30] + " = 1"]
        self.assertEqual({answer for _, answer in fresh(sheet(*texts))}, {number(1)})

    def test_told_lists_are_new(self):
        told = sheet("x = [1]")
        fresh(told).clear()
        self.answers(told, (A[0], numbers(1)))

    def test_texts_that_tell_no_tree(self):
        for text in NO_TREES:
            answer = fresh(sheet(text))[0][1]
            self.assertTrue(answer is None or answer[:3] == ("fault", "source", A[0]))
            self.assertEqual(answer is None, text.lstrip(" ")[:1] in ("", "#"))


class Kept(Case):

    def setUp(self):
        self.keeper = Keeper()

    def tells(self, told, *due):
        """The rows of a sheet: None for kept, else ring or the cause; the answers are the fresh ones."""
        held = self.keeper.held()
        before = copy.deepcopy(told)
        self.assertEqual(repr(self.keeper.tell(told)), repr(fresh(told)))
        rows = [(cell, "kept") if row is None else (cell, "ring") if row == "ring" else (cell, "read", row) for cell, row in due]
        self.assertEqual(repr(self.keeper.rows()), repr(rows))
        self.assertIsNone(wrong_row(held, told, rows))
        self.assertEqual(told, before)

    def test_new_and_kept(self):
        self.assertEqual(self.keeper.rows(), [])
        self.assertEqual(self.keeper.held(), [])
        told = sheet("x = 1", "x + 1", "f(a) = a", "", "# x", "1 +", "y = y")
        self.tells(told, (A[0], ("new",)), (A[1], ("new",)), (A[3], ("new",)), (A[4], ("new",)), (A[5], ("new",)), (A[6], "ring"))
        self.tells(told, (A[0], None), (A[1], None), (A[3], None), (A[4], None), (A[5], None), (A[6], "ring"))
        self.tells([])
        self.tells(told, (A[0], None), (A[1], None), (A[3], None), (A[4], None), (A[5], None), (A[6], "ring"))

    def test_text(self):
        told = sheet("x = 1", "x + 1", "2")
        self.tells(told, (A[0], ("new",)), (A[1], ("new",)), (A[2], ("new",)))
        # Another text of the same answer: who reads it is kept.
        self.tells(sheet("x = 2 - 1", "x + 1", "2 "), (A[0], ("text",)), (A[1], None), (A[2], ("text",)))
        # Back to the first texts, but only the last reading is held.
        self.tells(told, (A[0], ("text",)), (A[1], None), (A[2], ("text",)))
        self.tells(sheet("", "#", "2"), (A[0], ("text",)), (A[1], ("text",)), (A[2], None))
        self.tells(sheet(" ", "##", "2"), (A[0], ("text",)), (A[1], ("text",)), (A[2], None))

    def test_note(self):
        self.tells(sheet("x = 1", "y = 2", "x + y"), (A[0], ("new",)), (A[1], ("new",)), (A[2], ("new",)))
        self.tells(sheet("x = 1", "y = 3", "x + y"), (A[0], None), (A[1], ("text",)), (A[2], ("note", 1, ("y", "answer", A[1], number(3)))))
        self.tells(sheet("x = 7", "y = 4", "x + y"), (A[0], ("text",)), (A[1], ("text",)), (A[2], ("note", 0, ("x", "answer", A[0], number(7)))))
        self.tells(sheet("x = 7", "", "x + y"), (A[0], None), (A[1], ("text",)), (A[2], ("note", 1, ("y", "nobody"))))
        self.tells(sheet("x = 7", "x = 7", "x + y"), (A[0], None), (A[1], ("text",)), (A[2], ("note", 0, ("x", "twice"))))
        self.tells(sheet("x = 7", "y(a) = x", "x + y"), (A[0], None), (A[2], ("note", 0, ("x", "answer", A[0], number(7)))))
        self.assertEqual(self.keeper.held()[-1][4], [("x", "answer", A[0], number(7)), ("y", "text", A[1], "y(a) = x")])
        self.tells(sheet("x = 7", "y(a) = a", "x + y"), (A[0], None), (A[2], ("note", 1, ("y", "text", A[1], "y(a) = a"))))

    def test_of_another_cell_with_the_same_answer(self):
        told = [(A[5], "x"), (A[1], "x = 1")]
        self.tells(told, (A[5], ("new",)), (A[1], ("new",)))
        self.tells([(A[5], "x"), (A[2], "x = 1")], (A[5], ("note", 0, ("x", "answer", A[2], number(1)))), (A[2], ("new",)))
        self.tells([(A[5], "x"), (A[1], "x = 1"), (A[2], "y = 1")], (A[5], ("note", 0, ("x", "answer", A[1], number(1)))), (A[1], None),
                   (A[2], ("text",)))

    def test_what_was_not_asked_is_not_looked_at(self):
        told = sheet("if c then x else y", "c = true", "x = 1", "y = 2")
        self.tells(told, *[(A[place], ("new",)) for place in range(4)])
        told[3] = (A[3], "y = 3")
        self.tells(told, (A[0], None), (A[1], None), (A[2], None), (A[3], ("text",)))
        told[3] = (A[3], "z = 3")
        self.tells(told, (A[0], None), (A[1], None), (A[2], None), (A[3], ("text",)))
        told[1] = (A[1], "c = false")
        self.tells(told, (A[0], ("note", 0, ("c", "answer", A[1], truth(False)))), (A[1], ("text",)), (A[2], None), (A[3], None))
        self.assertEqual(self.keeper.held()[0][4], [("c", "answer", A[1], truth(False)), ("y", "nobody")])

    def test_notes_behind_the_first_unlike_one(self):
        told = sheet("[c, x, y]", "c = true", "x = 1", "y = 2")
        self.tells(told, *[(A[place], ("new",)) for place in range(4)])
        self.tells(sheet("[c, x, y]", "c = true", "x = 2", "y = 3"), (A[0], ("note", 1, ("x", "answer", A[2], number(2)))), (A[1], None),
                   (A[2], ("text",)), (A[3], ("text",)))
        # A name that only the old body asked isn't settled ahead; the body's own note is unlike first.
        told = sheet("f(1)", "f(a) = g(a) + x", "g(a) = a", "x = 1")
        self.tells(told, (A[0], ("text",)), (A[3], ("text",)))
        self.tells(sheet("f(1)", "f(a) = a", "g(a) = a * 2", "x = f(3)"), (A[0], ("note", 0, ("f", "text", A[1], "f(a) = a"))), (A[3], ("text",)))
        self.assertEqual(self.keeper.held()[0], (A[0], "f(1)", number(1), 3, [("f", "text", A[1], "f(a) = a")]))

    def test_through_cells_with_arguments(self):
        told = sheet("f(1)", "f(a) = a + x", "x = 1")
        self.tells(told, (A[0], ("new",)), (A[2], ("new",)))
        told[2] = (A[2], "x = 2")
        self.tells(told, (A[0], ("note", 1, ("x", "answer", A[2], number(2)))), (A[2], ("text",)))
        told[1] = (A[1], "f(a) = a +  x")
        self.tells(told, (A[0], ("note", 0, ("f", "text", A[1], "f(a) = a +  x"))), (A[2], None))
        told[1] = (A[1], "f = 1")
        self.tells(told, (A[0], ("note", 0, ("f", "answer", A[1], number(1)))), (A[1], ("new",)), (A[2], None))
        told[1] = (A[1], "f(a) = a +  x")
        self.tells(told, (A[0], ("note", 0, ("f", "text", A[1], "f(a) = a +  x"))), (A[2], None))
        # What is held of a cell stays while it takes arguments.
        told[1] = (A[1], "f = 1")
        self.tells(told, (A[0], ("note", 0, ("f", "answer", A[1], number(1)))), (A[1], None), (A[2], None))

    def test_faults_of_others(self):
        self.tells(sheet("x = 1 // 0", "x + 1", "y = 3"), *[(A[place], ("new",)) for place in range(3)])
        self.tells(sheet("x = 1  // 0", "x + 1", "y = 3"), (A[0], ("text",)), (A[1], None), (A[2], None))
        self.tells(sheet("x =  1 // 0", "x + 1", "y = 3"), (A[0], ("text",)), (A[1], ("note", 0, ("x", "answer", A[0], fault("nought", 5, A[0])))), (A[2], None))

    def test_a_cell_taken_out_and_put_back(self):
        told = sheet("x = 1", "x + y", "y = 2")
        self.tells(told, *[(A[place], ("new",)) for place in range(3)])
        self.tells(told[:2], (A[0], None), (A[1], ("note", 1, ("y", "nobody"))))
        self.assertEqual([row[0] for row in self.keeper.held()], A[:3])
        self.tells(told, (A[0], None), (A[1], ("note", 1, ("y", "answer", A[2], number(2)))), (A[2], None))
        self.tells(told[1:], (A[1], ("note", 0, ("x", "nobody"))), (A[2], None))
        self.tells(told[2:], (A[2], None))
        self.tells(told, (A[0], None), (A[1], ("note", 0, ("x", "answer", A[0], number(1)))), (A[2], None))

    def test_taken_out_and_put_back_unread(self):
        told = sheet("x = 1", "x + y", "y = 2")
        self.tells(told, *[(A[place], ("new",)) for place in range(3)])
        self.tells([told[0], told[2]], (A[0], None), (A[2], None))
        self.tells(told, (A[0], None), (A[1], None), (A[2], None))
        self.tells([told[0], (A[2], "y = 3")], (A[0], None), (A[2], ("text",)))
        self.tells([told[0], told[1], (A[2], "y = 3")], (A[0], None), (A[1], ("note", 1, ("y", "answer", A[2], number(3)))), (A[2], None))

    def test_a_ring_made_and_cut_again(self):
        told = sheet("x = y + 1", "y = 2", "x + 3")
        self.tells(told, *[(A[place], ("new",)) for place in range(3)])
        held = self.keeper.held()
        round_ = sheet("x = y + 1", "y = x", "x + 3")
        self.tells(round_, (A[0], "ring"), (A[1], "ring"), (A[2], ("note", 0, ("x", "answer", A[0], ring(A[0])))))
        self.assertEqual(self.keeper.held()[:2], held[:2])
        self.tells(round_, (A[0], "ring"), (A[1], "ring"), (A[2], None))
        self.tells(told, (A[0], None), (A[1], None), (A[2], ("note", 0, ("x", "answer", A[0], number(3)))))
        self.assertEqual(self.keeper.held(), held)
        # Another text while it is on a ring isn't read.
        self.tells(sheet("x = y", "y = x", "1"), (A[0], "ring"), (A[1], "ring"), (A[2], ("text",)))
        self.tells(told, (A[0], None), (A[1], None), (A[2], ("text",)))

    def test_of_a_ring_never_read(self):
        self.tells(sheet("x = x"), (A[0], "ring"))
        self.assertEqual(self.keeper.held(), [])
        self.tells(sheet("x = 1"), (A[0], ("new",)))

    def test_cells_in_another_order(self):
        told = sheet("x = y + 1", "y = z", "z = 5", "[x, y, z]", "f(a) = a", "f(x)")
        order = [place for place in range(6) if place != 4]
        self.tells(told, *[(A[place], ("new",)) for place in order])
        self.tells(told[::-1], *[(A[place], None) for place in order[::-1]])
        self.tells(told[3:] + told[:3], *[(A[place], None) for place in [3, 5, 0, 1, 2]])

    def test_held(self):
        told = [(("b", 0), "x = 1"), (("a", 10), "x + 1"), (("a", 9), "# n"), (("a", 2), "1 +"), (("a", 3), "f(b)")]
        self.keeper.tell(told)
        self.assertEqual(self.keeper.held(), [
            (("a", 2), "1 +", fault("source", 3, ("a", 2)), 0, []), (("a", 3), "f(b)", fault("nobody", 0, ("a", 3)), 1, [("f", "nobody")]),
            (("a", 9), "# n", None, 0, []), (("a", 10), "x + 1", number(2), 3, [("x", "answer", ("b", 0), number(1))]),
            (("b", 0), "x = 1", number(1), 1, [])])

    def test_steps_by_its_own_bound(self):
        keeper = Keeper(steps=2)
        told = sheet("1 + 2", "x = 1", "-x")
        self.assertEqual(keeper.tell(told), [(A[0], fault("steps", 4, A[0])), (A[1], number(1)), (A[2], number(-1))])
        self.assertEqual(keeper.tell(told), fresh(told, steps=2))
        self.assertEqual(keeper.held()[0], (A[0], "1 + 2", fault("steps", 4, A[0]), 2, []))
        self.assertEqual(Keeper(steps=3).tell(told)[0], (A[0], number(3)))

    def test_goes_on_as_the_one_that_told_it(self):
        first = Keeper(steps=50)
        told = sheet("x = y + 1", "y = 2", "x + 3", "f(a) = a + x", "f(y)", "#")
        first.tell(told)
        for form in (list, tuple):
            other = Keeper(steps=50, held=form(first.held()))
            self.assertEqual(other.held(), first.held())
            self.assertEqual(other.rows(), [])
            again = copy.deepcopy(first.held())
            for texts in (told, sheet("x = y + 1", "y = 3", "x + 3", "f(a) = a", "f(y)", "#"), told[1:], told):
                third = Keeper(steps=50, held=again)
                self.assertEqual(third.tell(texts), other.tell(texts))
                self.assertEqual(third.rows(), other.rows())
                again = third.held()
                self.assertEqual(again, other.held())

    def test_nothing_is_kept_but_by_the_class(self):
        first = Keeper()
        told = sheet("x = 1", "x + 1", "y = y")
        due = first.tell(told)
        held = first.held()
        before = copy.deepcopy((held, first.rows(), first.tell(told), told))
        other = Keeper(held=held)
        # What was told, and what was handed in, is the asker's own.
        for thing in (first.held(), held):
            for row in thing:
                row[4].append(("z", "nobody"))
            thing.clear()
        kept = list(first.rows())
        first.rows().clear()
        self.assertEqual(first.rows(), kept)
        due.clear()
        copied = list(told)
        told.clear()
        self.assertEqual(other.held(), before[0])
        self.assertEqual(first.held(), before[0])
        self.assertEqual(first.tell(copied), before[2])
        self.assertEqual(other.tell(copied), before[2])
        self.assertEqual(first.rows(), [(A[0], "kept"), (A[1], "kept"), (A[2], "ring")])
        notes = other.held()[1][4]
        self.assertIsNot(notes, other.held()[1][4])
        held = first.held()
        Keeper(held=held).tell(sheet("x = 2", "x + 1"))
        wrong_row(held, sheet("x = 2", "x + 1"), [])
        self.assertEqual(held, before[0])

    def test_rows_are_those_of_the_last_sheet(self):
        self.keeper.tell(sheet("1"))
        rows = self.keeper.rows()
        self.keeper.tell(sheet("1", "2"))
        self.assertEqual(rows, [(A[0], "read", ("new",))])
        self.assertEqual(self.keeper.rows(), [(A[0], "kept"), (A[1], "read", ("new",))])
        self.keeper.tell([])
        self.assertEqual(self.keeper.rows(), [])


class RowsJudged(Case):

    def setUp(self):
        keeper = Keeper()
        keeper.tell(sheet("x = 1", "x + 1", "y = y", "f(a) = a", "z = 2", "w = 3"))
        self.held = keeper.held()
        self.told = sheet("x = 2", "x + 1", "y = y", "f(a) = a", "z = 2", "w = 4", "[]")
        self.right = [(A[0], "read", ("text",)), (A[1], "read", ("note", 0, ("x", "answer", A[0], number(2)))), (A[2], "ring"), (A[4], "kept"),
                      (A[5], "read", ("text",)), (A[6], "read", ("new",))]

    def wrong(self, thing, due):
        before = copy.deepcopy((self.held, self.told))
        self.assertEqual(wrong_row(self.held, self.told, thing), due)
        self.assertEqual((self.held, self.told), before)

    def test_the_right_rows(self):
        keeper = Keeper(held=self.held)
        keeper.tell(self.told)
        self.assertEqual(keeper.rows(), self.right)
        self.wrong(self.right, None)
        self.assertIsNone(wrong_row([], [], []))
        self.assertIsNone(wrong_row(tuple(self.held), self.told, self.right))

    def test_each_wrong_row(self):
        note = ("note", 0, ("x", "answer", A[0], number(2)))
        for place, row in (
            (0, (A[0], "kept")), (0, (A[0], "ring")), (0, (A[0], "read", ("new",))), (0, (A[0], "read")), (0, (A[1], "read", ("text",))),
            (0, (A[0], "read", ("text", 0))), (0, (A[0], "read", "text")), (0, [A[0], "read", ("text",)]), (0, (A[0], "read", ["text"])),
            (0, (["a", 0], "read", ("text",))), (0, (("a", False), "read", ("text",))), (0, (A[0], "read", ("text",), 0)),
            (1, (A[1], "kept")), (1, (A[1], "read", ("note", 1, note[2]))), (1, (A[1], "read", ("note", False, note[2]))),
            (1, (A[1], "read", ("note", 0, ("x", "answer", A[0], number(1))))), (1, (A[1], "read", ("note", 0, ("x", "answer", ("a", False), number(2))))),
            (1, (A[1], "read", ("note", 0, ("x", "nobody")))), (1, (A[1], "read", ("note", 0))), (1, (A[1], "read", ("note", 0, list(note[2])))),
            (1, (("a", True), "read", note)), (2, (A[2], "kept")), (2, (A[2], "ring", None)), (2, (A[2],)), (2, A[2]), (3, (A[4], "ring")),
            (3, (A[3], "kept")), (3, (A[4], "read", ("new",))), (5, (A[6], "kept")), (5, (A[6], "read", ("text",))),
        ):
            self.wrong(self.right[:place] + [row] + self.right[place + 1:], place)
        for thing in ODD:
            for place in range(6):
                self.wrong(self.right[:place] + [thing] + self.right[place + 1:], place)
        one = self.right[1][2][2]
        self.assertEqual(one, note[2])

    def test_the_first_of_several(self):
        rows = list(self.right)
        rows[4] = rows[2] = None
        self.wrong(rows, 2)

    def test_fewer_and_more(self):
        for length in range(6):
            self.wrong(self.right[:length], length)
        self.wrong(self.right + [(A[7], "kept")], 6)
        self.wrong(self.right + [None, None], 6)
        self.wrong(self.right[1:], 0)
        self.wrong(self.right[:2] + self.right[3:], 2)
        self.wrong([None], 0)
        self.assertEqual(wrong_row([], [], [None]), 0)
        self.assertEqual(wrong_row([], sheet("f(a) = a"), [(A[0], "kept")]), 0)
        self.assertIsNone(wrong_row([], sheet("f(a) = a"), []))

    def test_what_is_no_list(self):
        for thing in ODD + [tuple(self.right), str(self.right), dict(enumerate(self.right))]:
            self.wrong(thing, 0)
        self.assertEqual(wrong_row([], [], ()), 0)
        self.assertEqual(wrong_row([], [], None), 0)

    def test_by_the_bound_of_steps(self):
        told = sheet("1 + 2", "x = -1", "x")
        held = Keeper(steps=1)
        held.tell(told)
        rows = [(A[0], "read", ("text",)), (A[1], "read", ("text",)), (A[2], "read", ("note", 0, ("x", "answer", A[1], number(-2))))]
        later = sheet("1 + 3", "x = -2", "x")
        self.assertEqual(wrong_row(held.held(), later, rows, steps=1), 2)
        self.assertIsNone(wrong_row(held.held(), later, rows, steps=2))
        self.assertIsNone(wrong_row(held.held(), later, rows))

    def test_truths_and_numbers_in_notes(self):
        told = sheet("x = 1", "[x]")
        keeper = Keeper()
        keeper.tell(told)
        later = sheet("x = true", "[x]")
        for answer, due in ((truth(True), None), (truth(1), 1), (number(True), 1), (number(1), 1), (words("true"), 1)):
            rows = [(A[0], "read", ("text",)), (A[1], "read", ("note", 0, ("x", "answer", A[0], answer)))]
            self.assertEqual(wrong_row(keeper.held(), later, rows), due)


class Chance(Case):

    def test_by_chance(self):
        chance = random.Random(101)
        causes = {}
        for _ in range(60):
            told = sheet_by_chance(chance, chance.randint(3, 9))
            steps = chance.choice([1000, 1000, 30, 10])
            keeper, plain = Keeper(steps=steps), PlainKeeper(steps)
            for _ in range(7):
                held = keeper.held()
                found = keeper.tell(told)
                self.assertEqual(repr(found), repr(plain.tell(told)))
                self.assertEqual(repr(found), repr(PlainSheet(told).fresh(steps)))
                self.assertEqual(repr(keeper.rows()), repr(plain.rows))
                self.assertEqual(repr(keeper.held()), repr(plain.all_held()))
                self.assertIsNone(wrong_row(held, told, keeper.rows(), steps=steps))
                self.wrong_by_chance(chance, held, told, keeper.rows(), steps)
                for cell, word, *cause in keeper.rows():
                    word = cause[0][0] if cause else word
                    causes[word] = causes.get(word, 0) + 1
                    if word != "ring":
                        due = PlainSheet(told).reading(cell, dict(found), steps)
                        self.assertEqual(repr(reading(told, cell, dict(found), steps=steps)), repr(due))
                told = edited(chance, told)
                if chance.random() < 0.2:
                    keeper = Keeper(steps=steps, held=keeper.held())
        self.assertTrue(all(causes[word] > 50 for word in ("kept", "new", "text", "note", "ring")), causes)

    def wrong_by_chance(self, chance, held, told, rows, steps):
        if not rows:
            return
        place = chance.randrange(len(rows))
        other = (rows[place][0],) + chance.choice([("kept",), ("ring",), ("read", ("new",)), ("read", ("text",))])
        due = None if other == rows[place] else place
        self.assertEqual(wrong_row(held, told, rows[:place] + [other] + rows[place + 1:], steps=steps), due)


if __name__ == "__main__":
    unittest.main()
