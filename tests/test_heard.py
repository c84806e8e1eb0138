"""Deeds handed in, taken in, waiting, wrong, told (points 2, 3, 6)."""

import random
import unittest

import makers
from makers import A0, A1, A2, B0, B1, B2, B3, ODD, SMALL, deed, mark, name

from leafround.errors import NoAct, NoDeed, NoteError
from leafround.heard import Heard
from leafround.texts import shown

CELL = ("cell", None, None)


def new(*deeds):
    return [(name(one), "new") for one in deeds]


class Hears(unittest.TestCase):

    def test_empty(self):
        heard = Heard()
        self.assertEqual((heard.hear([]), heard.taken(), heard.waits(), heard.seen(), len(heard)), ([], [], [], (), 0))
        self.assertIsNone(heard.deed(("a", 0)))

    def test_in_order(self):
        heard = Heard()
        self.assertEqual(heard.hear(SMALL), new(*SMALL))
        self.assertEqual(heard.taken(), [A0, A1, A2, B0, B1, B2, B3])
        self.assertEqual((heard.waits(), heard.seen(), len(heard)), ([], (("a", 3), ("b", 4)), 7))
        for one in SMALL:
            self.assertEqual(heard.deed(name(one)), one)

    def test_by_arguments_names(self):
        heard = Heard(hand="b", taken=(A0, A1), waiting=(A2[:1] + (3, 3, (("a", 3),)) + A2[4:],))
        self.assertEqual(heard.hear(deeds=[A2]), new(A2) + [(("a", 3), "new")])
        self.assertEqual(name(heard.tell(act=CELL)), ("b", 0))
        self.assertEqual(heard.deed(name=("a", 1)), A1)

    def test_had(self):
        heard = Heard()
        heard.hear([A0, B0])
        self.assertEqual(heard.hear([A0, B0, A0]), [(("a", 0), "had"), (("b", 0), "had"), (("a", 0), "had")])
        self.assertEqual(heard.hear([A1, A1]), [(("a", 1), "new"), (("a", 1), "had"), (("b", 0), "new")])
        self.assertEqual((heard.taken(), heard.waits()), ([A0, A1, B0], []))

    def test_pair(self):
        heard = Heard()
        other = deed("a", 0, 0, [], "cell", None, ("a", 0))
        waiting, unlike = deed("a", 2, 2, [("a", 2)], *CELL), A2
        self.assertEqual(heard.hear([A0, other]), [(("a", 0), "new"), (("a", 0), "pair", A0)])
        self.assertEqual(heard.hear([waiting, unlike]), [(("a", 2), "waits", ("a", 1)), (("a", 2), "pair", waiting)])
        self.assertEqual(heard.waits(), [waiting])
        self.assertEqual(heard.hear([A1]), new(A1, waiting))
        self.assertEqual(heard.hear([unlike]), [(("a", 2), "pair", waiting)])
        self.assertEqual((heard.taken(), heard.waits()), ([A0, A1, waiting], []))

    def test_an_unlike_one_that_would_be_wrong_or_wait_or_is_own(self):
        heard = Heard(hand="a")
        self.assertEqual(heard.tell(CELL), A0)
        for other in (deed("a", 0, 9, [], *CELL), deed("a", 0, 1, [("b", 1)], *CELL), deed("a", 0, 0, [], "drop", ("a", 0))):
            self.assertEqual(heard.hear([other]), [(("a", 0), "pair", A0)])
        self.assertEqual(heard.hear([A0]), [(("a", 0), "had")])

    def test_own(self):
        heard = Heard(hand="a")
        for one in (A0, A1, A2, deed("a", 0, 7, [], *CELL), deed("a", 3, 7, [("a", 3), ("b", 9)], *CELL)):
            self.assertEqual(heard.hear([one]), [(name(one), "own")])
        self.assertEqual((heard.taken(), heard.waits(), heard), ([], [], Heard()))
        heard = Heard(hand="a", taken=(A0,))
        self.assertEqual(heard.hear([A0, A1, B0]), [(("a", 0), "had"), (("a", 1), "own"), (("b", 0), "waits", ("a", 1))])
        self.assertEqual(heard.deed(("a", 1)), None)

    def test_waits_tells_what_it_lacks(self):
        heard = Heard()
        self.assertEqual(heard.hear([B3]), [(("b", 3), "waits", ("a", 0))])
        self.assertEqual(heard.hear([A0, A1, B2]), new(A0, A1) + [(("b", 2), "waits", ("b", 0))])
        self.assertEqual(heard.hear([B0, B2]), [(("b", 0), "new"), (("b", 2), "had")])
        self.assertEqual(heard.waits(), [B2, B3])
        self.assertEqual(heard.hear([B1]), new(B1, B2))
        self.assertEqual((heard.waits(), len(heard), heard.seen()), ([B3], 5, (("a", 2), ("b", 3))))
        self.assertIsNone(heard.deed(("b", 3)))

    def test_behind_all_that_are_handed_in(self):
        heard = Heard()
        late = deed("c", 0, 0, [], *CELL)
        self.assertEqual(heard.hear([A1, A0, late]), [(("a", 1), "waits", ("a", 0))] + new(A0, late, A1))
        self.assertEqual(heard.taken(), [A0, late, A1])

    def test_the_least_mark_again_and_again(self):
        heard = Heard()
        firsts = [deed(hand, 0, 1, [("a", 1)], *CELL) for hand in "dcb"]
        second = deed("b", 1, 2, [("a", 1), ("b", 1)], *CELL)
        apart = deed("e", 0, 3, [("a", 1), ("b", 2)], *CELL)
        wait = [(name(one), "waits", ("a", 0)) for one in [apart, second, *firsts]]
        self.assertEqual(heard.hear([apart, second, *firsts]), wait)
        self.assertEqual(heard.hear([A0]), new(A0, firsts[2], firsts[1], firsts[0], second, apart))

    def test_one_that_gets_free_goes_ahead_of_greater_marks(self):
        heard = Heard()
        b0, b1 = deed("b", 0, 1, [("a", 1)], *CELL), deed("b", 1, 2, [("a", 1), ("b", 1)], *CELL)
        c0 = deed("c", 0, 3, [("a", 1), ("d", 1), ("e", 1)], *CELL)
        d0 = deed("d", 0, 2, [("a", 1), ("e", 1)], *CELL)
        e0 = deed("e", 0, 1, [("a", 1)], *CELL)
        heard.hear([c0, d0, e0, b1, b0])
        self.assertEqual(heard.hear([A0]), new(A0, b0, e0, b1, d0, c0))

    def test_wrong_at_once(self):
        heard = Heard(taken=(A0, A1, B0))
        for one, word in (
            (deed("c", 0, 3, [("b", 1)], *CELL), "seen"), (deed("c", 0, 1, [], *CELL), "stamp"),
            (deed("c", 0, 3, [("a", 2), ("b", 1)], "drop", ("a", 1)), "names"),
            (deed("c", 0, 3, [("a", 2), ("b", 1)], "cell", None, ("b", 0)), "row"),
        ):
            self.assertEqual(heard.hear([one, one]), [(("c", 0), "wrong", word)] * 2)
            self.assertEqual((len(heard), heard.waits(), heard.deed(("c", 0))), (3, [], None))

    def test_wrong_behind_having_waited_and_its_name_is_free_again(self):
        heard = Heard()
        wrong, right = deed("b", 0, 5, [("a", 1)], *CELL), deed("b", 0, 1, [("a", 1)], *CELL)
        behind = deed("b", 1, 2, [("a", 1), ("b", 1)], *CELL)
        self.assertEqual(heard.hear([wrong, right]), [(("b", 0), "waits", ("a", 0)), (("b", 0), "pair", wrong)])
        self.assertEqual(heard.hear([behind]), [(("b", 1), "waits", ("a", 0))])
        self.assertEqual(heard.hear([A0]), new(A0) + [(("b", 0), "wrong", "stamp")])
        self.assertEqual(heard.waits(), [behind])
        self.assertEqual(heard.hear([wrong, right]), [(("b", 0), "wrong", "stamp")] + new(right, behind))

    def test_a_wrong_one_s_name_is_free_for_the_next_of_the_same_portion(self):
        heard = Heard()
        self.assertEqual(heard.hear([deed("a", 0, 1, [], *CELL), A0, A0]),
                         [(("a", 0), "wrong", "stamp"), (("a", 0), "new"), (("a", 0), "had")])

    def test_waits_by_marks_then_by_texts(self):
        heard = Heard()
        ones = [deed("b", 10, 5, [("b", 10)], *CELL), deed("b", 2, 5, [("b", 2)], *CELL), deed("a", 1, 5, [("a", 1)], *CELL),
                deed("c", 1, 4, [("c", 1)], *CELL), deed("b", 3, 5, [("b", 3)], *CELL)]
        heard.hear(ones)
        due = sorted(ones, key=lambda one: (mark(one), shown(one)))
        self.assertEqual([name(one) for one in due], [("c", 1), ("a", 1), ("b", 10), ("b", 2), ("b", 3)])
        self.assertEqual(heard.waits(), due)

    def test_begun_with_taken_and_waiting(self):
        for taken in (tuple(SMALL[:4]), tuple(SMALL[:4][::-1])):
            heard = Heard(taken=taken, waiting=(B3,))
            self.assertEqual((heard.taken(), heard.waits(), len(heard)), ([A0, A1, B0, B1], [B3], 4))
            self.assertEqual(heard.hear([A0, B3]), [(("a", 0), "had"), (("b", 3), "had")])
            self.assertEqual(heard.hear([B2]), new(B2))
            self.assertEqual(heard.hear([A2]), new(A2, B3))

    def test_a_deed_by_another_thing_than_a_name(self):
        heard = Heard(taken=(A0,))
        for thing in (("a", 1), ("b", 0), ("a",), "a:0", None):
            self.assertIsNone(heard.deed(thing))

    def test_nothing_hangs_on_what_is_done_behind_a_call(self):
        heard, handed = Heard(), [A0, A1]
        heard.hear(handed)
        handed.clear()
        heard.taken().clear()
        heard.waits().append(1)
        heard.hear([A0]).clear()
        self.assertEqual((heard.taken(), heard.waits(), len(heard)), ([A0, A1], [], 2))
        self.assertIsNot(heard.taken(), heard.taken())
        handed = [A1, A0, B3]
        heard.hear(handed)
        self.assertEqual(handed, [A1, A0, B3])


class Refuses(unittest.TestCase):

    def test_the_first_that_is_no_deed_and_nothing_is_changed(self):
        heard = Heard(taken=(A0,), waiting=(B1,))
        for thing in ODD:
            for ahead in ([], [A1], [A1, B0, B3]):
                with self.assertRaises(NoDeed) as held:
                    heard.hear([*ahead, thing, A2, None])
                self.assertEqual(held.exception.place, len(ahead))
                self.assertIsInstance(held.exception, NoteError)
                self.assertEqual((heard.taken(), heard.waits()), ([A0], [B1]))
        self.assertEqual(heard.hear([A1, B0]), new(A1, B0, B1))

    def test_deeds_of_great_numbers(self):
        far = deed("b", 0, 10 ** 70, [("a", 10 ** 70)], *CELL)
        self.assertEqual(Heard().hear([far]), [(("b", 0), "waits", ("a", 0))])


class Tells(unittest.TestCase):

    def test_the_first_deed(self):
        heard = Heard(hand="a")
        self.assertEqual(heard.tell(CELL), A0)
        self.assertEqual((heard.taken(), heard.seen(), len(heard)), ([A0], (("a", 1),), 1))

    def test_has_seen_all_that_is_taken_in(self):
        heard = Heard(hand="c")
        heard.hear([B3, *SMALL[:5]])
        one = heard.tell(("drop", ("a", 0)))
        self.assertEqual(one, deed("c", 0, 5, [("a", 2), ("b", 3)], "drop", ("a", 0)))
        other = heard.tell(("off", ("c", 0)))
        self.assertEqual(other, deed("c", 1, 6, [("a", 2), ("b", 3), ("c", 1)], "off", ("c", 0)))
        self.assertEqual(heard.deed(("c", 1)), other)
        self.assertEqual(heard.taken()[-2:], [one, other])

    def test_its_stamp_is_one_more_than_the_greatest(self):
        heard = Heard(hand="c", taken=(A0, A1, deed("z", 0, 0, [], *CELL)))
        self.assertEqual(heard.tell(CELL)[2:4], (2, (("a", 2), ("z", 1))))

    def test_by_their_form(self):
        heard = Heard(hand="a", taken=(A0, A1))
        acts = [("cell", None), ("cell", None, None, None), ["cell", None, None], ("write", ("a", 0), None, ""),
                ("write", ("a", 0), None, "x" * 61), ("write", ("a", 0), ("a", 1), "x"), ("strike", ()), ("drop", None),
                ("strike", (("a", 1, 1), ("a", 1, 0))), ("off", ("a", True)), ("make", ("a", 0)), ("z", ("z", 0)), A0]
        for act in acts + [thing for thing in ODD if thing != CELL]:
            with self.assertRaises(NoAct) as held:
                heard.tell(act)
            self.assertEqual(held.exception.word, "form")
        self.assertEqual((heard.taken(), heard.seen()), ([A0, A1], (("a", 2),)))

    def test_by_their_names_and_rows(self):
        heard = Heard(hand="c")
        heard.hear([deed("d", 1, 1, [("d", 1)], *CELL), *SMALL])
        for act, word in (
            (("drop", ("a", 1)), "names"), (("drop", ("c", 0)), "names"), (("drop", ("d", 1)), "names"),
            (("off", ("b", 3)), "names"), (("on", ("c", 0)), "names"), (("cell", ("a", 2), None), "names"),
            (("write", ("a", 0), ("a", 1, 3), "x"), "names"), (("strike", (("z", 0, 0),)), "names"),
            (("cell", None, ("b", 0)), "row"), (("write", ("a", 0), ("b", 1, 0), "x"), "row"),
            (("strike", (("a", 1, 0), ("b", 1, 0))), "row"), (("place", ("b", 0), None, ("b", 0)), "row"),
            (("cell", ("z", 0), ("b", 0)), "names"),
        ):
            with self.assertRaises(NoAct) as held:
                heard.tell(act)
            self.assertEqual(held.exception.word, word, act)
        self.assertEqual((len(heard), len(heard.waits()), heard.deed(("c", 0))), (7, 1, None))
        with self.assertRaises(NoAct) as held:
            Heard(hand="a").tell(("drop", ("a", 0)))
        self.assertEqual(held.exception.word, "names")

    def test_nothing_comes_in_behind_one_that_is_told(self):
        heard = Heard(hand="a")
        waiting = deed("b", 0, 1, [("a", 1)], *CELL)
        self.assertEqual(heard.hear([waiting]), [(("b", 0), "waits", ("a", 0))])
        self.assertEqual(heard.tell(CELL), A0)
        self.assertEqual((heard.waits(), len(heard), heard.seen()), ([waiting], 1, (("a", 1),)))
        self.assertEqual(heard.hear([waiting]), [(("b", 0), "had"), (("b", 0), "new")])
        heard = Heard(hand="a", waiting=(waiting,))
        heard.tell(CELL)
        self.assertEqual(heard.hear([]), [(("b", 0), "new")])


class Alike(unittest.TestCase):

    def test_of_like_taken_and_waiting_ones(self):
        self.assertEqual(Heard(), Heard())
        self.assertEqual(Heard(hand="a", taken=(A0,)), Heard(taken=(A0,)))
        self.assertEqual(Heard(taken=(A0, A1)), Heard(taken=(A1, A0)))
        self.assertNotEqual(Heard(taken=(A0, A1)), Heard(taken=(A0,)))
        self.assertNotEqual(Heard(taken=(A0,)), Heard(taken=(A0,), waiting=(B1,)))
        self.assertNotEqual(Heard(taken=(A0,), waiting=(B3,)), Heard(taken=(A0,), waiting=(B1,)))
        self.assertNotEqual(Heard(taken=(A0,)), Heard(taken=(deed("a", 0, 0, [], "cell", None, ("a", 0)),)))
        self.assertNotEqual(Heard(), [])
        self.assertNotEqual(Heard(), None)
        self.assertFalse(Heard(taken=(A0,)) != Heard(taken=(A0,)))

    def test_in_other_orders_and_portions(self):
        chance = random.Random(6)
        for _ in range(25):
            deeds = makers.by_chance(chance, ["a", "b", "c"], 16)
            left = deeds[:chance.randint(8, 16)] + deeds[12:]
            one, other = Heard(), Heard()
            one.hear(left)
            again = makers.shuffled(chance, left + chance.sample(left, 5))
            while again:
                cut = chance.randint(1, 5)
                other.hear(again[:cut])
                again = again[cut:]
            self.assertEqual(one, other)
            self.assertEqual((one.taken(), one.waits(), one.seen()), (other.taken(), other.waits(), other.seen()))
            self.assertEqual(Heard(taken=tuple(one.taken()), waiting=tuple(one.waits())), other)

    def test_as_the_plain_rule_with_wrong_ones_and_unlike_ones(self):
        chance = random.Random(7)
        words = {}
        for _ in range(60):
            deeds = makers.by_chance(chance, ["a", "b", "c", "d"], 14)
            handed = list(deeds)
            for one in deeds:
                if chance.random() < 0.3:
                    donor = chance.choice(deeds)
                    handed += [one[:2] + (one[2] + chance.randint(0, 1),) + one[3:4] + (donor[4],)]
                if chance.random() < 0.1:
                    handed += [one[:3] + (tuple(pair for pair in one[3] if pair[0] == one[0]),) + one[4:]]
            handed = makers.shuffled(chance, handed + chance.sample(handed, 4))
            hand = chance.choice([None, "d"])
            plain, heard = makers.PlainHeard(hand), Heard(hand=hand)
            while handed:
                cut = chance.randint(0, 6)
                rows = heard.hear(handed[:cut])
                self.assertEqual(rows, plain.hear(handed[:cut]))
                for row in rows:
                    words[row[1]] = words.get(row[1], 0) + 1
                handed = handed[cut:]
                if hand is not None and chance.random() < 0.3:
                    act = makers.act_by_chance(chance, plain.taken)
                    self.assertEqual(heard.tell(act), plain.tell(act))
                self.assertEqual(heard.taken(), sorted(plain.taken, key=mark))
                self.assertEqual(heard.waits(), sorted(plain.waiting, key=lambda one: (mark(one), shown(one))))
                self.assertEqual((heard.seen(), len(heard)), (plain.seen(), len(plain.taken)))
        self.assertTrue(all(words.get(word, 0) > 20 for word in ("had", "pair", "own", "waits", "wrong", "new")), words)


class Many(unittest.TestCase):

    def test_a_long_history_from_behind(self):
        houses = [Heard(hand=hand) for hand in "abc"]
        for turn in range(400):
            houses[turn % 3].tell(CELL)
            houses[turn % 2].hear(houses[2 - turn % 2].taken()[-3:])
        for house in houses[1:]:
            houses[0].hear(house.taken())
        other = Heard()
        other.hear(houses[0].taken()[::-1])
        self.assertEqual((other, len(other), other.waits()), (houses[0], 400, []))


if __name__ == "__main__":
    unittest.main()
