"""Deeds: form, name, mark, what they lack, what is wrong with them (points 2, 4, 5, 6)."""

import copy
import random
import unittest

import makers
from makers import A0, A1, A2, B0, B1, B2, B3, ODD, SMALL, deed

from leafround.deeds import is_deed, lacks, mark_of, name_of, wrong_by

CELL = ("cell", None, None)
BIG = 10 ** 60 - 1


def with_act(*act):
    return ("a", 0, 0, (), act)


def with_seen(seen, hand="a", k=0):
    return (hand, k, 9, seen, CELL)


class Form(unittest.TestCase):

    def yes(self, *things):
        for thing in things:
            with self.subTest(thing=thing):
                self.assertIs(is_deed(thing), True)

    def no(self, *things):
        for thing in things:
            with self.subTest(thing=thing):
                self.assertIs(is_deed(thing), False)

    def test_ordinary_ones(self):
        self.yes(*SMALL)

    def test_other_things(self):
        self.no(*ODD)
        self.no(*[list(one) for one in SMALL])
        self.no(*[one + (None,) for one in SMALL], *[one[:4] for one in SMALL])

    def test_hands(self):
        for hand in ("a", "z", "abcdefgh", "zzzzzzzz"):
            self.yes((hand, 0, 0, (), CELL), (hand, 1, 1, ((hand, 1),), CELL))
            self.yes(with_seen(((hand, 1),), hand="other"))
        for hand in ("", "abcdefghi", "A", "aB", "a1", "1", "a b", " ", "-", "a:", "\u00e9", "\u00df", "a\n", "`", "{",
                     0, None, True, b"a", ("a",), ["a"]):
            self.no((hand, 0, 0, (), CELL))
            self.no(with_seen(((hand, 1),), hand="other"))
            self.no(with_act("drop", (hand, 0)), with_act("write", ("a", 0), (hand, 0, 0), "x"))

    def test_numbers_of_the_deed(self):
        self.yes(("a", 0, 0, (), CELL), ("a", 0, BIG, (), CELL), ("a", BIG, 0, (("a", BIG),), CELL))
        for number in (-1, -BIG, True, False, None, "0", "1", (0,), [0]):
            self.no(("a", number, 0, (), CELL), ("a", 0, number, (), CELL))
            self.no(("a", number, 0, (("a", number),), CELL))
        self.no(("a", True, 1, (("a", 1),), CELL), ("a", 1, 1, (("a", True),), CELL))

    def test_seen(self):
        self.yes(with_seen(()), with_seen((("b", 1),)), with_seen((("b", 1), ("c", BIG), ("ca", 1), ("d", 3))))
        self.no(with_seen((("c", 1), ("b", 1))), with_seen((("b", 1), ("b", 1))), with_seen((("b", 1), ("b", 2))))
        self.no(with_seen((("b", 0),)), with_seen((("b", -1),)), with_seen((("b", True),)), with_seen((("b", None),)))
        self.no(with_seen([("b", 1)]), with_seen((["b", 1],)), with_seen((("b", 1, 1),)), with_seen((("b",),)))
        self.no(with_seen(("b", 1)), with_seen(("b1",)), with_seen(None), with_seen("b"), with_seen({}), with_seen(0))
        self.no(with_seen((("b", 1), None)), with_seen((("b", "1"),)), with_seen((("b", 1), ("c", 0))))

    def test_what_it_has_seen_of_its_own_hand(self):
        self.yes(with_seen((("b", 3),), hand="b", k=3), with_seen((("a", 1), ("b", 3), ("c", 1)), hand="b", k=3))
        self.no(with_seen((("b", 2),), hand="b", k=3), with_seen((("b", 4),), hand="b", k=3))
        self.no(with_seen((), hand="b", k=3), with_seen((("a", 3),), hand="b", k=3))
        self.no(with_seen((("b", 1),), hand="b", k=0), with_seen((("b", 0),), hand="b", k=0))
        self.no(with_seen((("a", 1), ("b", 1)), hand="b", k=0))

    def test_cells_and_places(self):
        name = ("b", 0)
        self.yes(with_act("cell", None, None), with_act("cell", name, None), with_act("cell", None, name),
                 with_act("cell", name, name))
        self.yes(with_act("place", name, None, None), with_act("place", name, name, name),
                 with_act("place", name, None, name), with_act("place", name, ("c", 3), None))
        self.no(with_act("place", None, None, None), with_act("place", None, name, name))
        for wrong in (("b", 0, 0), ("b",), "b:0", ["b", 0], ("b", True), ("b", -1), ("b", None), 0, False, (), name * 2):
            self.no(with_act("cell", wrong, None), with_act("cell", None, wrong))
            self.no(with_act("place", wrong, None, None), with_act("place", name, wrong, None),
                    with_act("place", name, None, wrong))

    def test_writes(self):
        name, sign = ("b", 0), ("c", 0, 0)
        self.yes(with_act("write", name, None, "x"), with_act("write", name, sign, "x"),
                 with_act("write", name, ("c", 0, BIG), " "), with_act("write", name, None, "x" * 60),
                 with_act("write", name, None, " ~"), with_act("write", name, None, "  "))
        for text in ("", "x" * 61, " " * 61, "\n", "x\n", "\t", "\x1f", "\x7f", "\u00e9", "\x00", "x" * 59 + "\x80",
                     None, 1, True, ("x",), ["x"], b"x"):
            self.no(with_act("write", name, None, text))
        for wrong in (("c", 0), ("c",), ("c", 0, 0, 0), ("c", 0, True), ("c", False, 0), ("c", 0, -1), ("c", -1, 0),
                      ("c", 0, None), ["c", 0, 0], "c:0:0", 0, ()):
            self.no(with_act("write", name, wrong, "x"))
        for wrong in (None, sign, ["b", 0], ("b", True), "b:0"):
            self.no(with_act("write", wrong, None, "x"))

    def test_strikes(self):
        signs = tuple(("c", 0, i) for i in range(61))
        self.yes(with_act("strike", signs[:1]), with_act("strike", signs[:60]))
        self.yes(with_act("strike", (("a", 0, 9), ("a", 1, 0), ("b", 0, 0))))
        self.no(with_act("strike", ()), with_act("strike", signs), with_act("strike", signs[:2][::-1]))
        self.no(with_act("strike", (signs[0], signs[0])), with_act("strike", (signs[0], signs[2], signs[1])))
        self.no(with_act("strike", (("b", 0, 0), ("a", 1, 0))), with_act("strike", (("a", 1, 0), ("a", 0, 9))))
        self.no(with_act("strike", list(signs[:2])), with_act("strike", (list(signs[0]),)))
        self.no(with_act("strike", signs[0]), with_act("strike", (("c", 0),)), with_act("strike", (None,)))
        self.no(with_act("strike", (signs[0], None)), with_act("strike", (("c", 0, 0), ("c", 0, True))))
        self.no(with_act("strike", None), with_act("strike", "c"), with_act("strike", 0))
        self.no(with_act("strike", *signs[:2]))

    def test_drops_and_turns(self):
        for kind in ("drop", "off", "on"):
            self.yes(with_act(kind, ("b", 0)), with_act(kind, ("b", BIG)))
            self.no(with_act(kind, None), with_act(kind, ("b", 0, 0)), with_act(kind, ("b",)), with_act(kind, "b"))
            self.no(with_act(kind, ["b", 0]), with_act(kind, ("b", False)), with_act(kind, ("b", -1)))

    def test_a_part_more_a_part_fewer_another_word(self):
        for one in SMALL:
            act = one[4]
            self.yes(one)
            self.no(one[:4] + (act + (None,),), one[:4] + (act + (act[-1],),), one[:4] + (act[:-1],))
            self.no(one[:4] + (act[:1] + act,), one[:4] + (act[1:],), one[:4] + ((),), one[:4] + (list(act),))
            for word in ("", "Cell", "cells", "cell ", "make", "OFF", None, 0, True, ("cell",), ["cell"], []):
                self.no(one[:4] + ((word,) + act[1:],))
        self.no(with_act("drop", ("b", 0), None), with_act("write", ("b", 0), None), with_act("cell", None))

    def test_lists_in_the_place_of_tuples_at_any_depth(self):
        def swaps(thing):
            """The thing with one tuple within it a list."""
            if isinstance(thing, tuple):
                yield list(thing)
                for at, part in enumerate(thing):
                    for other in swaps(part):
                        yield thing[:at] + (other,) + thing[at + 1:]

        for one in SMALL:
            self.no(*swaps(one))

    def test_odd_things_at_any_depth(self):
        def swaps(thing, odd):
            yield odd
            if isinstance(thing, tuple):
                for at, part in enumerate(thing):
                    for other in swaps(part, odd):
                        yield thing[:at] + (other,) + thing[at + 1:]

        for one in SMALL:
            for odd in (True, -1, [], (), "", "\u00e9", [[None]], (("a",),)):
                for other in swaps(one, odd):
                    if odd == () and other == one[:3] + ((),) + one[4:]:
                        continue
                    with self.subTest(thing=other):
                        self.assertIs(is_deed(other), False)


class Names(unittest.TestCase):

    def test_names_and_marks(self):
        self.assertEqual(name_of(B2), ("b", 2))
        self.assertEqual(mark_of(B2), (4, "b"))
        for one in SMALL:
            self.assertEqual((name_of(one), mark_of(one)), ((one[0], one[1]), (one[2], one[0])))
            self.assertIsInstance(name_of(one), tuple)
            self.assertIsInstance(mark_of(one), tuple)

    def test_by_their_arguments_names(self):
        self.assertEqual(is_deed(thing=A0), True)
        self.assertEqual(name_of(deed=A0), ("a", 0))
        self.assertEqual(mark_of(deed=A0), (0, "a"))
        self.assertEqual(lacks(deed=A1, taken=[]), ("a", 0))
        self.assertEqual(wrong_by(deed=A1, taken=[A0]), None)


class Lacks(unittest.TestCase):

    def test_nothing(self):
        self.assertIsNone(lacks(A0, []))
        self.assertIsNone(lacks(A1, [A0]))
        self.assertIsNone(lacks(A1, [A0, A1, A2]))
        self.assertIsNone(lacks(B3, [B2, B1, A2, B0, A1, A0]))

    def test_the_first_by_its_seen_then_the_least_number(self):
        self.assertEqual(lacks(A1, []), ("a", 0))
        self.assertEqual(lacks(A2, [A0]), ("a", 1))
        self.assertEqual(lacks(A2, []), ("a", 0))
        self.assertEqual(lacks(B3, []), ("a", 0))
        self.assertEqual(lacks(B3, [A0, A1, A2]), ("b", 0))
        self.assertEqual(lacks(B3, [A0, A1, B0, B1, B2]), ("a", 2))
        self.assertEqual(lacks(B3, [A0, A1, A2, B0]), ("b", 1))
        self.assertEqual(lacks(B3, [A1, A0, B0]), ("a", 2))

    def test_far_more_seen_than_there_is(self):
        far = ("b", 0, 5, (("a", BIG), ("c", BIG)), CELL)
        self.assertEqual(lacks(far, []), ("a", 0))
        self.assertEqual(lacks(far, [A0, A1, A2]), ("a", 3))

    def test_by_chance_in_any_order(self):
        chance = random.Random(1)
        for _ in range(30):
            deeds = makers.by_chance(chance, ["a", "b", "c"], 14)
            order = makers.in_an_order(chance, deeds)
            for many in range(len(order)):
                taken = makers.shuffled(chance, order[:many])
                for one in deeds:
                    self.assertEqual(lacks(one, taken), makers.lacked(one, taken))

    def test_nothing_is_changed(self):
        taken = [A1, A0]
        lacks(B3, taken)
        self.assertEqual(taken, [A1, A0])


class Wrong(unittest.TestCase):

    def check(self, one, taken, word):
        self.assertTrue(is_deed(one))
        for order in (taken, taken[::-1]):
            handed = copy.copy(order)
            self.assertEqual(wrong_by(one, handed), word)
            self.assertEqual(handed, order)

    def test_right_ones(self):
        for one in SMALL:
            self.check(one, [other for other in SMALL if other[2] < one[2]], None)

    def test_seen(self):
        # b's first had seen a's two, so who has seen it has, too.
        self.check(deed("c", 0, 3, [("b", 1)], *CELL), [A0, A1, B0], "seen")
        self.check(deed("c", 0, 3, [("a", 1), ("b", 1)], *CELL), [A0, A1, B0], "seen")
        self.check(deed("c", 0, 3, [("a", 2), ("b", 1)], *CELL), [A0, A1, B0], None)
        self.check(deed("b", 1, 3, [("b", 1)], *CELL), [A0, A1, B0], "seen")
        self.check(deed("b", 1, 3, [("a", 1), ("b", 1)], *CELL), [A0, A1, B0], "seen")

    def test_seen_by_one_that_is_not_the_last(self):
        taken = [A0, A1, B0, B1, B2]
        self.check(deed("c", 0, 5, [("a", 1), ("b", 3)], *CELL), taken, "seen")

    def test_stamps(self):
        for stamp, word in ((0, "stamp"), (2, "stamp"), (3, None), (4, "stamp"), (BIG, "stamp")):
            self.check(deed("c", 0, stamp, [("a", 2), ("b", 1)], *CELL), [A0, A1, B0], word)
        self.check(deed("c", 0, 0, [], *CELL), [A0, A1, B0], None)
        self.check(deed("c", 0, 1, [], *CELL), [A0, A1, B0], "stamp")
        self.check(deed("c", 0, 1, [], *CELL), [], "stamp")
        self.check(deed("c", 0, 1, [("a", 1)], *CELL), [A0, A1, B0], None)
        self.check(deed("c", 0, 3, [("a", 1)], *CELL), [A0, A1, B0], "stamp")

    def test_the_greatest_stamp_is_of_any_hand(self):
        late = deed("b", 0, 0, [], *CELL)
        self.check(deed("c", 0, 2, [("a", 2), ("b", 1)], *CELL), [A0, A1, late], None)
        self.check(deed("c", 0, 1, [("a", 2), ("b", 1)], *CELL), [A0, A1, late], "stamp")

    def of_all(self, *act):
        """What is wrong with an act told behind all of SMALL."""
        return wrong_by(deed("c", 0, 6, [("a", 3), ("b", 4)], *act), SMALL)

    def test_names_of_cells(self):
        for act, word in (
            (("cell", ("a", 0), None), None), (("cell", ("b", 0), None), None),
            (("cell", ("a", 1), None), "names"), (("cell", ("a", 2), None), "names"),
            (("cell", ("a", 3), None), "names"), (("cell", ("c", 0), None), "names"), (("cell", ("d", 0), None), "names"),
            (("place", ("b", 0), None, None), None), (("place", ("b", 1), None, None), "names"),
            (("place", ("a", 2), None, None), "names"), (("place", ("b", 9), None, None), "names"),
            (("place", ("a", 0), ("b", 0), None), None), (("place", ("a", 0), ("a", 0), None), None),
            (("place", ("a", 0), ("b", 2), None), "names"), (("place", ("a", 0), ("z", 0), None), "names"),
            (("drop", ("a", 0)), None), (("drop", ("a", 1)), "names"), (("drop", ("a", 2)), "names"),
            (("drop", ("b", 3)), "names"), (("drop", ("b", 4)), "names"), (("drop", ("c", 0)), "names"),
            (("write", ("b", 0), None, "x"), None), (("write", ("b", 1), None, "x"), "names"),
            (("write", ("a", 2), None, "x"), "names"), (("write", ("e", 0), None, "x"), "names"),
        ):
            self.assertEqual(self.of_all(*act), word, act)

    def test_names_of_stands_and_signs(self):
        for act, word in (
            (("cell", None, ("a", 0)), None), (("cell", None, ("a", 2)), None), (("cell", None, ("a", 1)), "names"),
            (("cell", None, ("b", 3)), "names"), (("cell", None, ("b", 4)), "names"),
            (("place", ("b", 0), None, ("a", 2)), None), (("place", ("b", 0), None, ("b", 2)), "names"),
            (("write", ("a", 0), ("a", 1, 2), "x"), None), (("write", ("a", 0), ("a", 1, 3), "x"), "names"),
            (("write", ("a", 0), ("a", 1, 60), "x"), "names"), (("write", ("a", 0), ("a", 0, 0), "x"), "names"),
            (("write", ("a", 0), ("b", 2, 0), "x"), "names"), (("write", ("a", 0), ("c", 0, 0), "x"), "names"),
            (("strike", (("a", 1, 0), ("a", 1, 2))), None), (("strike", (("a", 1, 0), ("a", 1, 3))), "names"),
            (("strike", (("b", 1, 3),)), None), (("strike", (("b", 1, 4),)), "names"),
            (("strike", (("b", 0, 0),)), "names"), (("strike", (("b", 2, 0),)), "names"),
            (("strike", (("a", 1, 0), ("d", 0, 0))), "names"),
        ):
            self.assertEqual(self.of_all(*act), word, act)

    def test_names_of_turned_deeds(self):
        for kind in ("off", "on"):
            for one in SMALL:
                word = "names" if one == B3 else None
                self.assertEqual(self.of_all(kind, name_of(one)), word)
            self.assertEqual(self.of_all(kind, ("c", 0)), "names")
            self.assertEqual(self.of_all(kind, ("a", 3)), "names")
            on = deed("c", 0, 6, [("a", 3), ("b", 4)], "on", ("a", 1))
            one = deed("c", 1, 7, [("a", 3), ("b", 4), ("c", 1)], kind, ("c", 0))
            self.check(one, SMALL + [on], "names")

    def test_names_taken_in_but_not_seen(self):
        self.check(deed("c", 0, 2, [("a", 2)], "cell", ("b", 0), None), SMALL, "names")
        self.check(deed("c", 0, 2, [("a", 2)], "cell", None, ("a", 2)), SMALL, "names")
        self.check(deed("c", 0, 1, [("a", 1)], "write", ("a", 0), ("a", 1, 0), "x"), SMALL, "names")
        self.check(deed("c", 0, 1, [("a", 1)], "strike", (("a", 1, 0),)), SMALL, "names")
        self.check(deed("c", 0, 1, [("a", 1)], "off", ("a", 1)), SMALL, "names")
        self.check(deed("c", 0, 0, [], "drop", ("a", 0)), SMALL, "names")

    def test_rows(self):
        for act, word in (
            (("cell", ("a", 0), ("b", 0)), None), (("cell", None, ("b", 0)), "row"),
            (("cell", ("b", 0), ("b", 0)), "row"), (("cell", ("a", 0), ("a", 0)), "row"),
            (("cell", ("a", 0), ("a", 2)), "row"), (("place", ("a", 0), None, ("a", 0)), None),
            (("place", ("a", 0), ("b", 0), ("b", 0)), "row"), (("place", ("b", 0), None, ("b", 0)), "row"),
            (("place", ("b", 0), ("a", 0), ("b", 0)), None), (("place", ("b", 0), ("a", 0), ("a", 2)), "row"),
            (("write", ("a", 0), ("b", 1, 0), "x"), "row"), (("write", ("b", 0), ("b", 1, 3), "x"), None),
            (("write", ("b", 0), ("a", 1, 0), "x"), "row"), (("strike", (("a", 1, 1), ("b", 1, 1))), "row"),
            (("strike", (("a", 1, 0), ("a", 1, 1), ("a", 1, 2), ("b", 1, 1))), "row"),
        ):
            self.assertEqual(self.of_all(*act), word, act)

    def test_a_stand_of_another_cell_of_that_parent(self):
        moved = deed("c", 0, 6, [("a", 3), ("b", 4)], "place", ("b", 0), None, ("a", 2))
        one = deed("c", 1, 7, [("a", 3), ("b", 4), ("c", 1)], "cell", None, ("c", 0))
        self.check(one, SMALL + [moved], None)
        one = deed("c", 1, 7, [("a", 3), ("b", 4), ("c", 1)], "cell", ("a", 0), ("c", 0))
        self.check(one, SMALL + [moved], "row")

    def test_of_two_words_the_first(self):
        self.check(deed("c", 0, 9, [("b", 1)], *CELL), [A0, A1, B0], "seen")
        self.check(deed("c", 0, 3, [("b", 1)], "drop", ("z", 0)), [A0, A1, B0], "seen")
        self.check(deed("c", 0, 9, [("a", 2), ("b", 1)], "drop", ("z", 0)), [A0, A1, B0], "stamp")
        self.check(deed("c", 0, 9, [("a", 2), ("b", 1)], "cell", None, ("b", 0)), [A0, A1, B0], "stamp")
        self.check(deed("c", 0, 3, [("a", 2), ("b", 1)], "cell", ("z", 0), ("b", 0)), [A0, A1, B0], "names")
        self.check(deed("c", 0, 3, [("a", 2), ("b", 1)], "place", ("z", 0), None, ("b", 0)), [A0, A1, B0], "names")
        two = ("strike", (("a", 1, 0), ("b", 1, 0), ("b", 1, 9)))
        self.assertEqual(self.of_all(*two), "names")

    def test_by_chance(self):
        chance = random.Random(2)
        words = {}
        for _ in range(60):
            deeds = makers.by_chance(chance, ["a", "b", "c"], 12)
            for one in deeds:
                others = [other for other in deeds if other != one]
                self.assertIsNone(wrong_by(one, makers.shuffled(chance, deeds)))
                donor = chance.choice(deeds)
                acts = [other[4] for other in deeds if other[4][:1] == one[4][:1]]
                for bent in (
                    one[:4] + (one[4][:-1] + chance.choice(acts)[-1:],),
                    one[:4] + (one[4][:1] + chance.choice(acts)[1:2] + one[4][2:],),
                    one[:2] + (one[2] + 1,) + one[3:], one[:4] + (donor[4],),
                    one[:3] + (tuple(pair for pair in one[3] if pair[0] == one[0]),) + one[4:],
                    one[:3] + (tuple(pair for pair in one[3] if pair[0] == one[0]), donor[4]),
                ):
                    word = makers.wrong_word(bent, others)
                    words[word] = words.get(word, 0) + 1
                    if makers.lacked(bent, deeds) is None:
                        self.assertEqual(wrong_by(bent, makers.shuffled(chance, deeds)), word)
        self.assertTrue(all(words.get(word, 0) > 5 for word in (None, "seen", "stamp", "names", "row")), words)


if __name__ == "__main__":
    unittest.main()
