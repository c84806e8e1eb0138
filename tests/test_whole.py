"""What is promised over the whole program (points 1, 2, 3, 30, 41), and that all that is listed is there."""

import importlib
import inspect
import random
import unittest

from makers import in_an_order, mark, name, notebook_of, shuffled
from plainhouse import PlainHouse, house_act, page_at, sheet_at

from leafround.disks import Disk
from leafround.errors import Fallen
from leafround.house import House
from leafround.judge import first_wrong, judged, papers_of
from leafround.notebook import Notebook
from leafround.patches import is_patch, patch, put_on


class Case(unittest.TestCase):
    maxDiff = None

    def is_as_due(self, house, deeds, width=60):
        """A house shows what one plain rule and one plain meaning tell of these deeds."""
        self.assertEqual(house.deeds(), sorted(deeds, key=mark))
        self.assertEqual(house.cells(), notebook_of(deeds))
        self.assertEqual(house.page(width=width), page_at(deeds, width))
        self.assertEqual(house.page(at=house.now(), width=width), page_at(deeds, width))
        self.assertEqual(house.answers(), PlainHouse("z", deeds).answers(house.now()))
        self.assertEqual(house.papers(), papers_of(sheet_at(deeds)))


def told_by_houses(chance, hands, many):
    """Deeds of these hands, told by plain houses that hear one another now and then."""
    plains = {hand: PlainHouse(hand) for hand in hands}
    told = []
    while len(told) < many:
        plain = plains[chance.choice(hands)]
        if chance.random() < 0.35:
            plain.take(plains[chance.choice(hands)].taken())
        act = house_act(chance, plain.taken())
        told.append(plain.heard.tell(act))
    return told


class OnePage(Case):

    def test_whatever_came_when(self):
        """Houses that hear the same deeds in unlike orders and portions, some falling and made anew, show one page."""
        chance = random.Random(31)
        for _ in range(12):
            deeds = told_by_houses(chance, "abc", 30)
            pages = []
            for hand in ("x", "y", "z"):
                disk = Disk() if hand != "x" else None
                house = House(hand, disk=disk)
                left = shuffled(chance, deeds) if hand != "y" else in_an_order(chance, deeds)
                while len(house) < len(deeds):
                    many = chance.randint(1, 6)
                    portion, left = left[:many] + chance.sample(deeds, chance.randint(0, 3)), left[many:]
                    if disk is not None and chance.random() < 0.2:
                        disk.fall(chance.choice([0, 20, 50, 200]))
                    try:
                        if chance.random() < 0.5:
                            house.take(portion)
                        else:
                            house.hear(("give", "q", tuple(portion)))
                    except Fallen:
                        house = House(hand, disk=disk)
                        left = shuffled(chance, deeds)
                    if chance.random() < 0.3:
                        self.assertEqual(house.page(), page_at(house.deeds(), 60))
                self.is_as_due(house, deeds, chance.randint(20, 120))
                pages.append((house.page(), house.answers(), house.papers(), house.now()))
            self.assertTrue(all(page == pages[0] for page in pages))

    def test_the_judge_lets_each_one_s_papers_by_with_another_one_s_page(self):
        chance = random.Random(32)
        for _ in range(15):
            deeds = told_by_houses(chance, "abc", 25)
            houses = []
            for hand in ("x", "y"):
                houses.append(House(hand))
                houses[-1].take(shuffled(chance, deeds))
                houses[-1].page()
            one, other = houses
            width = chance.randint(20, 120)
            self.assertIsNone(judged(shuffled(chance, deeds + deeds[:4]), one.page(width=width), other.papers(), width=width))
            self.assertIsNone(first_wrong(other.deeds(), one.page(width=width), width=width))
            moment = one.moment_of(name(chance.choice(deeds)))
            there = [deed for deed in deeds if deed[1] < dict(moment).get(deed[0], 0)]
            self.assertIsNone(judged(there, other.page(at=moment), one.papers(at=moment)))
            lines = one.page()
            if lines:
                number = chance.randrange(len(lines))
                bad = lines[:number] + ["?"] + lines[number + 1:]
                self.assertEqual(judged(deeds, bad, other.papers()), ("line", number, lines[number]))
                self.assertEqual(first_wrong(deeds, bad), (number, lines[number]))

    def test_a_patch_between_two_pages(self):
        chance = random.Random(33)
        for _ in range(10):
            deeds = told_by_houses(chance, "ab", 25)
            house = House("z")
            house.take(deeds)
            old, new = house.page(at=house.moment_of(name(chance.choice(deeds)))), house.page()
            told = patch(old, new)
            self.assertTrue(is_patch(old, new, told))
            self.assertEqual(put_on(old, told), new)


class Even(Case):

    def test_two_houses(self):
        """Each one's have heard by the other and the give heard by it, each way: one table, no have is answered."""
        chance = random.Random(301)
        for _ in range(20):
            deeds = told_by_houses(chance, "abc", 20)
            one, other = House("x"), House("y")
            for house in (one, other):
                for deed in in_an_order(chance, deeds)[:chance.randint(0, 20)]:
                    house.take([deed])
                house.tell(("cell", None, None))
                self.assertEqual(house.waiting(), [])
            for asker, giver in ((one, other), (other, one)):
                give = giver.hear(asker.have())
                if give is not None:
                    asker.hear(give)
            self.assertEqual((one.now(), one.deeds(), one.page(), one), (other.now(), other.deeds(), other.page(), other))
            self.assertEqual((one.hear(other.have()), other.hear(one.have()), one.offer("y"), other.offer("x")), (None,) * 4)

    def test_many_houses(self):
        """One has heard the gives of all to its have, and all the gives of it."""
        chance = random.Random(302)
        for _ in range(10):
            houses = [House(hand) for hand in "abcde"]
            for _ in range(30):
                house = chance.choice(houses)
                house.tell(house_act(chance, house.deeds()))
                if chance.random() < 0.3:
                    chance.choice(houses).take(chance.choice(houses).deeds())
            first = houses[0]
            have = first.have()
            for give in shuffled(chance, [house.hear(have) for house in houses[1:]]):
                if give is not None:
                    first.hear(give)
            for house in houses[1:]:
                give = first.hear(house.have())
                if give is not None:
                    house.hear(give)
            for house in houses[1:]:
                self.assertEqual((house.now(), house.page(), house), (first.now(), first.page(), first))

    def test_parcels_by_chance(self):
        """Parcels lost, doubled, late: each house is as the plain one that heard the same."""
        chance = random.Random(303)
        for _ in range(15):
            houses = {hand: (House(hand), PlainHouse(hand)) for hand in "abc"}
            parcels = []
            for _ in range(60):
                hand, other = chance.sample("abc", 2)
                house, plain = houses[hand]
                roll = chance.random()
                if roll < 0.4:
                    act = house_act(chance, plain.taken())
                    self.assertEqual(house.tell(act), plain.tell(act))
                elif roll < 0.5:
                    give = house.offer(other)
                    self.assertEqual(give, plain.offer(other))
                    parcels += [(other, give)] if give else []
                elif roll < 0.6:
                    self.assertEqual(house.have(), plain.have())
                    parcels.append((other, house.have()))
                elif parcels:
                    to, parcel = chance.choice(parcels)
                    if parcel[0] == "give" and chance.random() < 0.5:
                        parcel = parcel[:2] + (tuple(chance.sample(parcel[2], chance.randint(1, len(parcel[2])))),)
                    told = houses[to][0].hear(parcel)
                    self.assertEqual(told, houses[to][1].hear(parcel))
                    if parcel[0] == "have" and told is not None:
                        parcels.append((parcel[1], told))
                if chance.random() < 0.3:
                    self.assertEqual((house.now(), house.deeds(), house.waiting(), house.known(other)), (plain.now(), plain.taken(), plain.waiting(), plain.known(other)))
                    self.assertEqual(house.answers(), plain.settle())
                    self.assertEqual(house.read(), plain.keeper.rows)


class NoUnlikeDeeds(Case):

    def test_of_two_unlike_deeds_one_stays(self):
        one, other = House("x"), House("y")
        first = ("a", 0, 0, (), ("cell", None, None))
        second = ("a", 1, 1, (("a", 1),), ("write", ("a", 0), None, "x = 1"))
        unlike = second[:4] + (("write", ("a", 0), None, "x = 2"),)
        one.take([first, second])
        other.take([first, unlike])
        self.assertEqual(one.take(other.deeds()), [(("a", 0), "had"), (("a", 1), "pair", second)])
        self.assertEqual(other.take(one.deeds()), [(("a", 0), "had"), (("a", 1), "pair", unlike)])
        self.assertEqual((one.page(), other.page()), (["- x = 1", "  = 1"], ["- x = 2", "  = 2"]))


LISTED = {
    "deeds": ["is_deed(thing)", "name_of(deed)", "mark_of(deed)", "lacks(deed, taken)", "wrong_by(deed, taken)"],
    "texts": ["shown(deed)", "read(row)", "shown_all(deeds)", "read_all(text)"],
    "heard": ["Heard(*, hand=None, taken=(), waiting=())"],
    "rows": ["plain_row(puts)", "barred(puts, names)", "Row()"],
    "notebook": ["off_names(deeds)", "places(deeds)", "notebook(deeds)", "Notebook()"],
    "sources": ["told_as(text)", "shown_tree(tree)", "shown_cell(told)", "free(tree, params)"],
    "meaning": ["meaning(cell, tree, world, *, steps=1000)"],
    "machine": ["rows_of(tree)", "run(cell, rows, world, *, steps=1000)"],
    "whys": ["whys(cell, tree, world)", "wrong_why(cell, tree, world, rows)"],
    "names": ["givers(sheet)", "names_of(text)", "given_by(text)", "leads(sheet)"],
    "rings": ["ring_of(sheet, cell)", "is_ring(sheet, cell, thing)", "levels(sheet)", "are_levels(sheet, thing)"],
    "kept": ["reading(sheet, cell, answers, *, steps=1000)", "fresh(sheet, *, steps=1000)", "Keeper(*, steps=1000, held=())", "wrong_row(held, sheet, thing, *, steps=1000)"],
    "records": ["record(number, rows)", "parsed(log)", "check_of(text)"],
    "disks": ["Disk(*, hand=None, picture='', log='')"],
    "books": ["Book(disk, hand)"],
    "parcels": ["is_table(thing)", "is_parcel(thing)", "joined(one, other)", "common(one, other)"],
    "pages": ["page_of(cells, *, width=60)", "written(answer, cell)", "window(lines, *, top=0, rows=20)", "place_of(cursor, cells, row, *, width=60)"],
    "patches": ["patch(old, new)", "put_on(lines, patch)", "is_patch(old, new, thing)", "table(old, new)", "is_table(old, new, thing)"],
    "judge": ["papers_of(sheet)", "judged(deeds, lines, papers, *, width=60)", "first_wrong(deeds, lines, *, width=60)"],
    "house": ["House(hand, *, disk=None)"],
    "desk": ["Desk()"],
    "errors": ["NoDeed(place)", "NoAct(word)", "NoRow(row)", "NoCell(cell)", "NoSource(at)", "NoWhy(word)", "OtherHand(hand)", "NoParcel(thing)", "NoMoment(thing)", "NoName(name)", "NoHand(thing)",
               "Refused(place)", "NoPatch(row)", "NoHouse(hand)"],
}

METHODS = {
    ("heard", "Heard"): ["hear(deeds)", "tell(act)", "taken()", "waits()", "seen()", "deed(name)", "__len__()", "__eq__(other)"],
    ("rows", "Row"): ["put(mark, names, behind)", "names()", "spot(name)", "__len__()"],
    ("notebook", "Notebook"): ["add(deed)", "signs(cell)", "stands(parent)", "places()", "cells()", "text(cell)", "__len__()"],
    ("kept", "Keeper"): ["tell(sheet)", "rows()", "held()"],
    ("disks", "Disk"): ["whose()", "picture()", "log()", "fall(signs)"],
    ("books", "Book"): ["write(rows)", "rows()", "written()", "picture()"],
    ("house", "House"): ["tell(act)", "several(acts)", "take(deeds)", "hear(parcel)", "have()", "known(hand)", "offer(hand)", "now()", "deeds()", "waiting()", "cells(*, at=None)", "answers(*, at=None)", "read()",
                         "page(*, at=None, width=60, top=0, rows=None)", "papers(*, at=None)", "moment_of(name)", "is_whole(thing)", "difference(one, other)", "wrote(cell, *, at=None)", "unaware(cell)",
                         "broken(one, other)", "back(moment)", "__len__()", "__eq__(other)"],
    ("desk", "Desk"): ["say(row)"],
}


class Listed(Case):

    def test_each_under_its_name_in_its_file(self):
        for module, signatures in LISTED.items():
            there = importlib.import_module("leafround." + module)
            for signature in signatures:
                what, params = signature.split("(", 1)
                one = getattr(there, what)
                self.assertEqual(one.__module__, "leafround." + module)
                self.assertEqual(str(inspect.signature(one)), "(" + params)

    def test_each_method_in_its_class_itself(self):
        for (module, kind), signatures in METHODS.items():
            one = getattr(importlib.import_module("leafround." + module), kind)
            for signature in signatures:
                what, params = signature.split("(", 1)
                self.assertIn(what, vars(one))
                told = str(inspect.signature(vars(one)[what]))
                self.assertEqual(told, "(self" + (", " if params != ")" else "") + params, (kind, what))

    def test_steps(self):
        self.assertEqual(importlib.import_module("leafround.meaning").STEPS, 1000)


class LateDeeds(Case):

    def test_late_ones_are_put_in_at_once(self):
        """A notebook to which deeds come in any order shows what the plain rule shows."""
        chance = random.Random(91)
        for _ in range(20):
            deeds = told_by_houses(chance, "abc", 30)
            book = Notebook()
            for deed in in_an_order(chance, deeds):
                book.add(deed)
            self.assertEqual(book.cells(), notebook_of(deeds))


if __name__ == "__main__":
    unittest.main()
