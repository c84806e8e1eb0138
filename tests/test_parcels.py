"""Tables and parcels (points 2, 28, 32)."""

import copy
import random
import unittest

from makers import A0, A1, B0, ODD, SMALL, deed

from leafround.parcels import common, is_parcel, is_table, joined

BIG = 10 ** 60 - 1


class Tables(unittest.TestCase):

    def test_some(self):
        for thing in ((), (("a", 1),), (("a", 1), ("b", 1)), (("a", 9), ("aa", BIG), ("b", 2)), (("abcdefgh", 1), ("z", 3)),
                      tuple((hand, 1) for hand in "abcdefghijklmnopqrstuvwxyz")):
            self.assertIs(is_table(thing), True, thing)
            self.assertIs(is_table(thing=thing), True)

    def test_hands(self):
        for thing in ((("b", 1), ("a", 1)), (("a", 1), ("a", 1)), (("a", 1), ("a", 2)), (("a", 1), ("b", 1), ("a", 1)), (("aa", 1), ("a", 1)),
                      (("A", 1),), (("abcdefghi", 1),), (("", 1),), (("\u00e9", 1),), (("a ", 1),), (("1", 1),), ((None, 1),), ((1, 1),), ((True, 1),),
                      (("a", 1), ("B", 1)), ((("a",), 1),), ((["a"], 1),), (("a", 1), (2, 1))):
            self.assertIs(is_table(thing), False, thing)

    def test_numbers(self):
        for many in (0, -1, True, False, "1", None, (1,), [1], "", 0 - BIG):
            self.assertIs(is_table((("a", many),)), False, many)
            self.assertIs(is_table((("a", 1), ("b", many))), False, many)

    def test_forms(self):
        for thing in ([], [("a", 1)], (["a", 1],), (("a", 1), ["b", 1]), (("a",),), (("a", 1, 1),), ("a", 1), (("a", 1), ()), (None,), "a", "ab", (("a", 1), None),
                      ((("a", 1),),), [["a", 1]], "", 0, None, True):
            self.assertIs(is_table(thing), False, thing)

    def test_of_anything(self):
        for thing in ODD:
            self.assertIs(is_table(thing), isinstance(thing, tuple) and thing == (), thing)
            self.assertIs(is_table((("a", 1), thing)), False)


class Parcels(unittest.TestCase):

    def test_haves(self):
        for table in ((), (("a", 1),), (("a", 1), ("b", 4))):
            self.assertIs(is_parcel(("have", "a", table)), True)
            self.assertIs(is_parcel(thing=("have", "abcdefgh", table)), True)
        for table in ((("b", 1), ("a", 1)), (("a", 0),), (("a", True),), [("a", 1)], (["a", 1],), None, (A0,), A0, "a"):
            self.assertIs(is_parcel(("have", "a", table)), False, table)

    def test_gives(self):
        for deeds in ((A0,), (A0, A1), (A1, A0), (A0, A0), tuple(SMALL), tuple(SMALL[::-1]), (B0, A1)):
            self.assertIs(is_parcel(("give", "z", deeds)), True)
        unlike = deed("a", 0, 9, (), "drop", ("q", 3))
        self.assertIs(is_parcel(("give", "z", (A0, unlike))), True)
        for deeds in ((), [A0], (A0, list(A1)), (A0, None), (None,), A0, (A0[:4],), ((("a", 1)),), (("a", 1),), (A0, A1[:4] + (("write", ("a", 0), None, ""),)), None,
                      (A0, ()), (deed("a", 0, True, (), "drop", ("a", 0)),)):
            self.assertIs(is_parcel(("give", "z", deeds)), False, deeds)

    def test_with_parts_more_or_fewer(self):
        for thing in (("have", "a"), ("have", "a", (), ()), ("have",), ("give", "a"), ("give", "a", (A0,), ()), (), ("give", (A0,)), ("have", ()), ("have", "a", (), None)):
            self.assertIs(is_parcel(thing), False, thing)

    def test_hands_and_words(self):
        for hand in ("A", "", "abcdefghi", None, 1, ("a",), ["a"], True, "a b"):
            self.assertIs(is_parcel(("have", hand, ())), False, hand)
            self.assertIs(is_parcel(("give", hand, (A0,))), False, hand)
        for word in ("Have", "haves", "", None, 0, True, ("have",), ["give"], "take", "give "):
            self.assertIs(is_parcel((word, "a", ())), False, word)
            self.assertIs(is_parcel((word, "a", (A0,))), False, word)
        self.assertIs(is_parcel(("have", "a", (A0,))), False)
        self.assertIs(is_parcel(("give", "a", (("a", 1),))), False)

    def test_lists_in_a_tuple_s_place(self):
        self.assertIs(is_parcel(["have", "a", ()]), False)
        self.assertIs(is_parcel(["give", "a", (A0,)]), False)
        self.assertIs(is_parcel(("have", "a", [])), False)
        self.assertIs(is_parcel(("give", "a", [A0])), False)

    def test_of_anything(self):
        for thing in ODD:
            self.assertIs(is_parcel(thing), False)
            self.assertIs(is_parcel(("give", "a", thing)), False)
            self.assertIs(is_parcel(("give", "a", (thing,))), False)
            self.assertIs(is_parcel(("have", "a", thing)), isinstance(thing, tuple) and thing == ())
            self.assertIs(is_parcel((thing, "a", ())), False)
            self.assertIs(is_parcel(("have", thing, ())), isinstance(thing, str) and thing == "a")


class JoinedAndCommon(unittest.TestCase):

    def told(self, one, other, both, shared):
        before = copy.deepcopy((one, other))
        for first, second in ((one, other), (other, one)):
            self.assertEqual(repr(joined(first, second)), repr(both))
            self.assertEqual(repr(common(first, second)), repr(shared))
        self.assertEqual((one, other), before)

    def test_no_hand(self):
        self.told((), (), (), ())
        self.told((), (("a", 3),), (("a", 3),), ())
        self.told((), (("a", 3), ("b", 1)), (("a", 3), ("b", 1)), ())

    def test_one_hand(self):
        self.told((("a", 3),), (("a", 3),), (("a", 3),), (("a", 3),))
        self.told((("a", 3),), (("a", 5),), (("a", 5),), (("a", 3),))
        self.told((("a", 3),), (("b", 5),), (("a", 3), ("b", 5)), ())

    def test_all_hands_alike(self):
        self.told((("a", 1), ("b", 7), ("c", 3)), (("a", 2), ("b", 6), ("c", 3)), (("a", 2), ("b", 7), ("c", 3)), (("a", 1), ("b", 6), ("c", 3)))

    def test_some(self):
        self.told((("b", 2), ("d", 4), ("f", 6)), (("a", 1), ("d", 5), ("e", BIG)), (("a", 1), ("b", 2), ("d", 5), ("e", BIG), ("f", 6)), (("d", 4),))
        self.told((("aa", 1), ("b", 1)), (("a", 1), ("aa", 2), ("ab", 1)), (("a", 1), ("aa", 2), ("ab", 1), ("b", 1)), (("aa", 1),))

    def test_by_the_names_shown(self):
        self.assertEqual(joined(other=(("a", 1),), one=()), (("a", 1),))
        self.assertEqual(common(other=(("a", 1),), one=(("a", 2),)), (("a", 1),))

    def test_by_chance(self):
        chance = random.Random(321)
        for _ in range(300):
            tables = [tuple((hand, chance.randint(1, 4)) for hand in "abcdef" if chance.random() < 0.5) for _ in range(2)]
            one, other = map(dict, tables)
            both = tuple((hand, max(one.get(hand, 0), other.get(hand, 0))) for hand in "abcdef" if hand in one or hand in other)
            shared = tuple((hand, min(one[hand], other[hand])) for hand in "abcdef" if hand in one and hand in other)
            self.told(*tables, both, shared)
            self.assertTrue(is_table(both) and is_table(shared))


if __name__ == "__main__":
    unittest.main()
