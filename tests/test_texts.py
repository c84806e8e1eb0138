"""Deeds as rows of words and back (points 2, 10)."""

import random
import unittest

import makers
from makers import A0, A1, A2, B2, B3, ODD, SMALL, deed, mark

from leafround.deeds import is_deed
from leafround.errors import NoRow, NoteError
from leafround.texts import read, read_all, shown, shown_all

NINES = 10 ** 60 - 1
ROWS = {
    "a 0 0 - cell - -": A0,
    "a 1 1 a:1 write a:0 - one": A1,
    "b 0 2 a:2 cell a:0 -": makers.B0,
    "b 1 3 a:2,b:1 write b:0 - two!": makers.B1,
    "b 2 4 a:2,b:2 strike a:1:0 a:1:2": B2,
    "a 2 2 a:2 place a:0 - a:0": A2,
    "b 3 5 a:3,b:3 off a:2": B3,
    "c 0 0 - cell a:0 b:0": deed("c", 0, 0, [], "cell", ("a", 0), ("b", 0)),
    "c 0 0 - cell - b:12": deed("c", 0, 0, [], "cell", None, ("b", 12)),
    "c 0 0 - place a:0 b:0 c:0": deed("c", 0, 0, [], "place", ("a", 0), ("b", 0), ("c", 0)),
    "c 0 0 - place a:0 - -": deed("c", 0, 0, [], "place", ("a", 0), None, None),
    "c 0 0 - place a:0 b:1 -": deed("c", 0, 0, [], "place", ("a", 0), ("b", 1), None),
    "c 0 0 - write a:0 a:1:10 x": deed("c", 0, 0, [], "write", ("a", 0), ("a", 1, 10), "x"),
    "c 0 0 - strike a:1:0": deed("c", 0, 0, [], "strike", (("a", 1, 0),)),
    "c 0 0 - strike a:9:0 a:10:0": deed("c", 0, 0, [], "strike", (("a", 9, 0), ("a", 10, 0))),
    "c 0 0 - drop a:0": deed("c", 0, 0, [], "drop", ("a", 0)),
    "c 0 0 - on abcdefgh:3": deed("c", 0, 0, [], "on", ("abcdefgh", 3)),
    "abcdefgh 10 200 a:1,abcdefgh:10,b:30 drop a:0":
        deed("abcdefgh", 10, 200, [("a", 1), ("abcdefgh", 10), ("b", 30)], "drop", ("a", 0)),
}


def written(text):
    return deed("c", 0, 0, [], "write", ("a", 0), None, text)


class Rows(unittest.TestCase):

    def refused(self, *rows):
        for row in rows:
            with self.subTest(row=row):
                with self.assertRaises(NoRow) as held:
                    read(row)
                self.assertEqual(held.exception.row, 0)
                self.assertIsInstance(held.exception, NoteError)

    def test_each_kind_of_act_there_and_back(self):
        for row, one in ROWS.items():
            with self.subTest(row=row):
                self.assertTrue(is_deed(one))
                self.assertEqual(shown(one), row)
                self.assertEqual(read(row), one)
                self.assertTrue(is_deed(read(row)))

    def test_by_their_arguments_names(self):
        self.assertEqual(shown(deed=A0), "a 0 0 - cell - -")
        self.assertEqual(read(row="a 0 0 - cell - -"), A0)
        self.assertEqual(shown_all(deeds=[A0]), "a 0 0 - cell - -")
        self.assertEqual(read_all(text="a 0 0 - cell - -"), [A0])

    def test_texts_with_blanks(self):
        for text in (" ", "  ", " x", "x ", "  x  y  ", "-", "- -", "write a:0 - x", ":", ",", "~" * 60, " " * 60):
            self.assertEqual(shown(written(text)), "c 0 0 - write a:0 - " + text)
            self.assertEqual(read(shown(written(text))), written(text))

    def test_texts_that_are_none(self):
        self.refused(*["c 0 0 - write a:0 - " + text for text in ("", "x" * 61, "\u00e9", "x\n", "\n", "\t", "x\x7f")])
        self.refused("c 0 0 - write a:0 -", "c 0 0 - write a:0", "c 0 0 - write", "c 0 0 - write a:0  x")

    def test_numbers(self):
        for number in (0, 1, 9, 10, 60, 10 ** 59, NINES):
            one = deed("c", 0, number, [], "off", ("a", number))
            self.assertEqual(shown(one), f"c 0 {number} - off a:{number}")
            self.assertEqual(read(shown(one)), one)
        one = deed("c", NINES, 0, [("b", NINES), ("c", NINES)], "strike", (("a", NINES, NINES),))
        self.assertEqual(read(shown(one)), one)

    def test_numbers_that_are_none(self):
        self.assertEqual(read("c 7 7 c:7 off a:7"), deed("c", 7, 7, [("c", 7)], "off", ("a", 7)))
        far = ["1" + "0" * 60, "9" * 61, "9" * 70, "1" * 5000, "1" * 20000, "0" * 60, "0" * 61]
        for word in [*far, "", "00", "01", "-1", "+1", "-0", "+0", "1_0", " 1", "1.", "1.0", "0x1", "1e1", "\u0661",
                     "\u00b2", "\uff11", "a", "1a", "-", ":", "None", "True", "7\n", "\n7"]:
            self.refused(f"c {word} 7 c:{word} off a:7", f"c 7 {word} c:7 off a:7", f"c 7 7 c:{word} off a:7")
            self.refused(f"c 7 7 c:7 off a:{word}", f"c 7 7 b:{word},c:7 off a:7", f"c 7 7 c:7 drop a:{word}")
            self.refused(f"c 7 7 c:7 strike a:{word}:7", f"c 7 7 c:7 strike a:7:{word}")
            self.refused(f"c 7 7 c:7 cell a:{word} -", f"c 7 7 c:7 cell - a:{word}")
            self.refused(f"c 7 7 c:7 write a:{word} - x", f"c 7 7 c:7 write a:0 a:{word}:1 x")

    def test_a_blank_more_or_fewer(self):
        for row in ROWS:
            self.refused(" " + row)
            for at, sign in enumerate(row):
                if sign == " ":
                    # A blank more ahead of a text is the text's own.
                    if " write " not in row or row[:at].count(" ") < 6:
                        self.refused(row[:at] + " " + row[at:])
                    if " write " not in row:
                        self.refused(row[:at] + row[at + 1:])
                    self.refused(row[:at] + "\t" + row[at + 1:], row[:at] + "\n" + row[at + 1:])
            if " write " not in row:
                self.refused(row + " ", row + "\n")

    def test_a_word_more_or_fewer(self):
        for row in ROWS:
            words = row.split(" ")
            for at in range(len(words)):
                if at < 5 or words[4] not in ("strike", "write"):
                    self.refused(" ".join(words[:at] + words[at + 1:]))
                if at < 6 or words[4] != "write":
                    self.refused(" ".join(words[:at] + [words[at]] + words[at:]))
            if words[4] != "write":
                self.refused(row + " -", row + " a:0", row + " x")
        self.refused("", " ", "-", "a", "a 0 0 -", "a 0 0 - ", "a 0 0 - cell", "c 0 0 - strike", "c 0 0 - strike ")

    def test_words_that_are_none(self):
        for row in (
            "A 0 0 - cell - -", "abcdefghi 0 0 - cell - -", "- 0 0 - cell - -", "\u00e9 0 0 - cell - -",
            "a 0 0 - Cell - -", "a 0 0 - cells - -", "a 0 0 -- cell - -", "a 0 0 , cell - -", "a 0 0 b cell - -",
            "a 0 0 b:1, cell - -", "a 0 0 ,b:1 cell - -", "a 0 0 b:1,,c:1 cell - -", "a 0 0 b:1:1 cell - -",
            "a 0 0 -,b:1 cell - -", "a 0 0 c:1,b:1 cell - -", "a 0 0 b:1,b:2 cell - -", "a 0 0 b:0 cell - -",
            "a 0 0 a:1 cell - -", "a 1 0 - cell - -", "a 1 0 a:2 cell - -", "a 0 0 B:1 cell - -",
            "a 0 0 - drop -", "a 0 0 - off -", "a 0 0 - on -", "a 0 0 - place - - -", "a 0 0 - write - - x",
            "a 0 0 - strike -", "a 0 0 - strike a:0", "a 0 0 - strike a:0:0:0", "a 0 0 - strike a:0:1 a:0:0",
            "a 0 0 - strike a:0:0 a:0:0", "a 0 0 - strike a:0:0 -", "a 0 0 - strike a:10:0 a:9:0",
            "a 0 0 - drop a:0:0", "a 0 0 - drop a", "a 0 0 - drop a:", "a 0 0 - drop :0", "a 0 0 - drop a:0:",
            "a 0 0 - cell a:0:0 -", "a 0 0 - cell - a:0:0", "a 0 0 - write a:0 a:0 x", "a 0 0 - write a:0:0 - x",
            "a 0 0 - drop A:0", "a 0 0 - drop abcdefghi:0", "a 0 0 - drop a;0", "a 0 0 - drop ('a',0)",
            "a 0 0 - None", "a 0 0 - cell None None", "a 0 0 () cell - -",
        ):
            self.refused(row)
        signs = " ".join(f"a:0:{i}" for i in range(61))
        self.refused("a 0 0 - strike " + signs)
        self.assertEqual(len(read("a 0 0 - strike " + signs[:-7])[4][1]), 60)

    def test_what_is_no_text(self):
        self.refused(*[thing for thing in ODD if thing not in list(ROWS)])
        self.refused(*SMALL, [row for row in ROWS], b"a 0 0 - cell - -")

    def test_each_row_writes_one_deed_and_each_deed_one_row(self):
        chance = random.Random(3)
        for one in makers.by_chance(chance, ["a", "bb", "c"], 200):
            row = shown(one)
            self.assertEqual(read(row), one)
            # Of a row with one sign another one: none, or another deed that is written just so.
            at = chance.randrange(len(row))
            other = row[:at] + chance.choice("abc0123 :,-~") + row[at + 1:]
            try:
                self.assertEqual(shown(read(other)), other)
            except NoRow:
                pass


class Several(unittest.TestCase):

    def refused(self, text, place):
        with self.subTest(text=text):
            with self.assertRaises(NoRow) as held:
                read_all(text)
            self.assertEqual(held.exception.row, place)

    def test_by_rising_marks(self):
        rows = [shown(one) for one in SMALL]
        order = [A0, A1, A2, makers.B0, makers.B1, B2, B3]
        self.assertEqual(shown_all(SMALL), "\n".join(shown(one) for one in order))
        self.assertEqual(shown_all(SMALL[::-1]), shown_all(SMALL))
        self.assertEqual(read_all(shown_all(SMALL)), order)
        self.assertEqual(read_all("\n".join(rows)), order)
        self.assertEqual(read_all("\n".join(rows[::-1])), order)

    def test_none_and_one(self):
        self.assertEqual(shown_all([]), "")
        self.assertEqual(read_all(""), [])
        self.assertEqual(shown_all([A1]), shown(A1))
        self.assertEqual(read_all(shown(A1)), [A1])

    def test_those_of_one_mark_by_their_rows(self):
        two, ten = deed("a", 2, 5, [("a", 2)], "drop", ("a", 0)), deed("a", 10, 5, [("a", 10)], "drop", ("a", 0))
        on, off = deed("a", 2, 5, [("a", 2)], "on", ("a", 0)), deed("a", 2, 5, [("a", 2)], "off", ("a", 0))
        other = deed("b", 0, 5, [], "cell", None, None)
        early = deed("c", 0, 4, [], "cell", None, None)
        due = [early, ten, two, off, on, other]
        chance = random.Random(4)
        for _ in range(20):
            handed = makers.shuffled(chance, due)
            self.assertEqual(shown_all(handed), "\n".join(shown(one) for one in due))
            self.assertEqual(read_all("\n".join(shown(one) for one in handed)), due)

    def test_the_first_row_that_is_none(self):
        rows = [shown(one) for one in SMALL]
        for place in range(len(rows)):
            for wrong in ("", "x", rows[place] + "\t", " " + rows[place], "c 0 00 - cell - -", "-"):
                self.refused("\n".join(rows[:place] + [wrong] + rows[place:]), place)
                self.refused("\n".join(rows[:place] + [wrong, "y"]), place)
        self.refused("\n", 0)
        self.refused("\n" + rows[0], 0)
        self.refused(rows[0] + "\n", 1)
        self.refused(rows[0] + "\r\n" + rows[1], 0)
        self.refused(rows[0] + "\r" + rows[1], 0)
        self.refused("\n".join(rows) + "\n", len(rows))
        self.refused("\n".join(rows[:2]) + "\n\n" + rows[2], 2)

    def test_a_row_that_stood_there_ahead(self):
        rows = [shown(one) for one in SMALL]
        self.refused(rows[0] + "\n" + rows[0], 1)
        self.refused("\n".join(rows + [rows[3]]), len(rows))
        self.refused("\n".join([rows[2], rows[0], rows[2], "x"]), 2)
        self.refused("\n".join([rows[2], "x", rows[2]]), 1)

    def test_unlike_ones_of_one_name_may_stand(self):
        one, other = deed("a", 0, 0, [], "cell", None, None), deed("a", 0, 1, [("b", 1)], "cell", None, None)
        self.assertEqual(read_all(shown(other) + "\n" + shown(one)), [one, other])

    def test_what_is_no_text(self):
        for thing in (None, 0, True, (), [], [shown(A0)], (shown(A0),), A0, [A0], b"", 10 ** 70, [[]]):
            self.refused(thing, 0)
        for thing in ODD:
            if thing != "" and thing not in list(ROWS):
                self.refused(thing, 0)

    def test_by_chance_and_nothing_is_changed(self):
        chance = random.Random(5)
        for _ in range(20):
            deeds = makers.by_chance(chance, ["a", "b", "c"], 15)
            handed = makers.shuffled(chance, deeds)
            kept = list(handed)
            self.assertEqual(read_all(shown_all(handed)), sorted(deeds, key=mark))
            self.assertEqual(handed, kept)

    def test_told_lists_are_new(self):
        text = shown_all(SMALL)
        first = read_all(text)
        first.clear()
        self.assertEqual(len(read_all(text)), len(SMALL))
        read_all("").append(1)
        self.assertEqual(read_all(""), [])


if __name__ == "__main__":
    unittest.main()
