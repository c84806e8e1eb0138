"""Pages of cells, answers as written, windows, places of cursors (points 2, 14, 37, 38, 39)."""

import copy
import random
import unittest

from plainpage import plain_page, plain_place, plain_written
from terms import fault, items, number, numbers, truth, words

from leafround.pages import page_of, place_of, window, written

A, B, C = ("a", 0), ("b", 1), ("abcdefgh", 10 ** 20)
MOST = 10 ** 60 - 1
FROM = ("fault", "from", B)
RING = ("fault", "ring", A)
WORDS = ("kind", "nought", "index", "great", "steps", "deep", "nobody", "twice", "source")


class Case(unittest.TestCase):
    maxDiff = None

    def page(self, cells, *lines, owners=None, **more):
        before = copy.deepcopy(cells)
        told = page_of(cells, **more)
        self.assertEqual(told[0], list(lines))
        if owners is not None:
            self.assertEqual(told[1], owners)
        self.assertEqual(repr(told), repr(plain_page(cells, **more)))
        self.assertEqual(cells, before)


class Written(Case):

    def writes(self, answer, due, cell=A):
        self.assertEqual(written(answer, cell), due)
        self.assertEqual(plain_written(answer, cell), due)

    def test_numbers(self):
        for n in (0, 1, 10, 123456789, MOST, -1, -10, -MOST):
            self.writes(number(n), str(n))

    def test_truths(self):
        self.writes(truth(True), "true")
        self.writes(truth(False), "false")

    def test_texts_with_any_signs(self):
        for text in ("", "a", " ", "true", "1", "[1, 2]", "'", "a'b", "\\", "a\nb", "\u00e9", "  a ", "=", "! ", "\t", "~" * 400):
            self.writes(words(text), "'" + text + "'")

    def test_lists(self):
        self.writes(items(), "[]")
        self.writes(numbers(1), "[1]")
        self.writes(numbers(1, -2, 0), "[1, -2, 0]")
        self.writes(items(words("a"), truth(True), words(""), number(-3)), "['a', true, '', -3]")
        self.writes(items(items(), items(items()), numbers(1, 2)), "[[], [[]], [1, 2]]")
        self.writes(items(items(items(items(words(", "))))), "[[[[', ']]]]")
        self.writes(numbers(*range(200)), "[" + ", ".join(map(str, range(200))) + "]")

    def test_faults_with_an_at_of_its_own_text(self):
        for word in WORDS:
            for at in (0, 7, 400):
                self.writes(fault(word, at, A), word)
                self.writes(fault(word, at, C), word, C)

    def test_faults_with_an_at_of_another_cell_s_text(self):
        for word in WORDS:
            self.writes(fault(word, 0, B), word + " at 0 of b:1")
            self.writes(fault(word, 41, C), word + " at 41 of abcdefgh:" + "1" + "0" * 20)
            self.writes(fault(word, 3, ("a", 1)), word + " at 3 of a:1")
            self.writes(fault(word, 3, A), word + " at 3 of a:0", ("aa", 0))

    def test_from_and_ring(self):
        self.writes(FROM, "from b:1")
        self.writes(("fault", "from", C), "from abcdefgh:100000000000000000000")
        self.writes(RING, "ring")
        self.writes(("fault", "ring", B), "ring", B)

    def test_by_the_names_shown(self):
        self.assertEqual(written(cell=A, answer=number(1)), "1")


class Pages(Case):

    def test_no_cells(self):
        self.page([], owners=[])

    def test_some(self):
        cells = [(A, 0, "x = 1 + 2", number(3)), (B, 1, "# so", None), (C, 2, "f(n) = n", None), (("c", 3), 0, "1 // 0", fault("nought", 0, ("c", 3)))]
        lines = ["- x = 1 + 2", "  = 3", "  - # so", "    - f(n) = n", "- 1 // 0", "  ^", "  ! nought"]
        owners = [(A, "text", 0), (A, "answer", 0), (B, "text", 0), (C, "text", 0), (("c", 3), "text", 0), (("c", 3), "mark", 0), (("c", 3), "answer", 0)]
        self.page(cells, *lines, owners=owners)
        self.assertEqual(page_of(cells=cells, width=60), (lines, owners))

    def test_told_are_two_lists_in_a_tuple(self):
        told = page_of([(A, 0, "1", number(1))])
        self.assertIsInstance(told, tuple)
        self.assertEqual([list] * 2, [part.__class__ for part in told])
        told[0].append("x")
        told[1].clear()
        self.assertEqual(page_of([(A, 0, "1", number(1))]), (["- 1", "  = 1"], [(A, "text", 0), (A, "answer", 0)]))

    def test_the_default_width_is_sixty(self):
        self.page([(A, 0, "a" * 58, None)], "- " + "a" * 58)
        self.page([(A, 0, "a" * 59, None)], "- " + "a" * 58, "  a")
        self.assertEqual(page_of([(A, 3, "a" * 99, words("b" * 99))]), page_of([(A, 3, "a" * 99, words("b" * 99))], width=60))

    def test_an_empty_text(self):
        self.page([(A, 0, "", None)], "-", owners=[(A, "text", 0)])
        self.page([(A, 2, "", None)], "    -")

    def test_pieces_of_just_the_room_one_more_one_fewer(self):
        for width in (20, 21, 59, 120):
            room = width - 2
            for many in (room - 1, room):
                self.page([(A, 0, "x" * many, None)], "- " + "x" * many, width=width)
            self.page([(A, 0, "x" * room + "y", None)], "- " + "x" * room, "  y", width=width)
            self.page([(A, 0, "x" * room + "y" * room, None)], "- " + "x" * room, "  " + "y" * room, width=width,
                      owners=[(A, "text", 0), (A, "text", 1)])
            self.page([(A, 0, "x" * room + "y" * room + "z", None)], "- " + "x" * room, "  " + "y" * room, "  z", width=width)

    def test_answers_of_just_the_room_one_more_one_fewer(self):
        for width in (20, 21, 120):
            room = width - 4
            for many in (room - 3, room - 2):
                self.page([(A, 0, "1", words("x" * many))], "- 1", "  = '" + "x" * many + "'", width=width)
            self.page([(A, 0, "1", words("x" * (room - 1)))], "- 1", "  = '" + "x" * (room - 1), "    '", width=width,
                      owners=[(A, "text", 0), (A, "answer", 0), (A, "answer", 1)])
            self.page([(A, 1, "1", number(10 ** (room - 3)))], "  - 1", "    = 1" + "0" * (room - 3), width=width)

    def test_a_fault_s_words_are_cut_too(self):
        self.page([(A, 5, "1", fault("nobody", 12, C))], " " * 10 + "- 1", " " * 12 + "! nobody", " " * 14 + " at 12", " " * 14 + " of ab", " " * 14 + "cdefgh",
                  " " * 14 + ":10000", " " * 14 + "000000", " " * 14 + "000000", " " * 14 + "0000", width=20)

    def test_widths_and_depths(self):
        """Ever further in, up to ten signs of the width that are left."""
        for width, most in ((20, 10), (21, 10), (22, 12), (23, 12), (60, 50), (61, 50), (119, 108), (120, 110)):
            for depth in (0, 1, 2, 3, 4, 5, 6, 7, 24, 25, 26, 54, 55, 56, 400, MOST):
                inset = min(2 * depth, most)
                room = width - inset - 2
                self.page([(A, depth, "x" * room + "y", number(7))], " " * inset + "- " + "x" * room, " " * inset + "  y", " " * inset + "  = 7", width=width)

    def test_blanks_at_a_line_s_end(self):
        self.page([(A, 0, "a  ", None)], "- a")
        self.page([(A, 0, "   ", None)], "-")
        self.page([(A, 0, " " * 40 + "x", None)], "-", "", "      x", width=20, owners=[(A, "text", number_) for number_ in range(3)])
        self.page([(A, 0, "x" + " " * 40, None)], "- x", "", "", width=20)
        self.page([(A, 0, "1", words("a" + " " * 20))], "- 1", "  = 'a", "          '", width=20)
        self.page([(A, 0, "a\t", None)], "- a\t")

    def test_answers_behind_texts(self):
        self.page([(A, 0, "1", number(1))], "- 1", "  = 1")
        self.page([(A, 1, "x" * 20, numbers(1, 2, 3, 4, 5))], "  - " + "x" * 16, "    " + "x" * 4, "    = [1, 2, 3, 4, 5", "      ]", width=20)
        self.page([(A, 0, "", truth(False))], "-", "  = false")

    def test_lines_numbered_by_kinds(self):
        cells = [(A, 0, "x" * 40, fault("kind", 20, A)), (B, 0, "x" * 19, words("y" * 20)), (A, 3, "1", None)]
        owners = [(A, "text", 0), (A, "text", 1), (A, "mark", 0), (A, "text", 2), (A, "answer", 0), (B, "text", 0), (B, "text", 1), (B, "answer", 0), (B, "answer", 1),
                  (A, "text", 0)]
        self.page(cells, "- " + "x" * 18, "  " + "x" * 18, "    ^", "  xxxx", "  ! kind", "- " + "x" * 18, "  x", "  = 'yyyyyyyyyyyyyyy", "    yyyyy'", "      - 1",
                  width=20, owners=owners)


class Marks(Case):

    def marked(self, text, at, *lines, depth=0, word="kind"):
        """The page of one cell of width 20, but for the fault's own line."""
        inset = " " * 2 * depth
        self.page([(A, depth, text, fault(word, at, A))], *lines, inset + "  ! " + word, width=20)

    def test_at_the_first_sign(self):
        self.marked("abc", 0, "- abc", "  ^")
        self.marked("abc", 0, "    - abc", "      ^", depth=2)

    def test_at_the_last_one_and_behind_it(self):
        self.marked("abc", 2, "- abc", "    ^")
        self.marked("abc", 3, "- abc", "     ^")

    def test_at_each_sign_of_several_pieces(self):
        for at in range(19):
            lines = ["- " + "a" * 18, "  " + "b" * 18, "  cc"]
            if at < 18:
                self.marked("a" * 18 + "b" * 18 + "cc", at, lines[0], "  " + " " * at + "^", *lines[1:])
                self.marked("a" * 18 + "b" * 18 + "cc", 18 + at, *lines[:2], "  " + " " * at + "^", lines[2])
            if at < 3:
                self.marked("a" * 18 + "b" * 18 + "cc", 36 + at, *lines, "  " + " " * at + "^")

    def test_behind_the_last_sign_of_a_whole_piece(self):
        self.marked("a" * 18, 17, "- " + "a" * 18, "  " + " " * 17 + "^")
        self.marked("a" * 18, 18, "- " + "a" * 18, "  " + " " * 18 + "^")
        self.marked("a" * 36, 36, "- " + "a" * 18, "  " + "a" * 18, "  " + " " * 18 + "^")
        self.marked("a" * 19, 18, "- " + "a" * 18, "  a", "  ^")
        self.marked("a" * 19, 19, "- " + "a" * 18, "  a", "   ^")

    def test_of_an_empty_text(self):
        self.marked("", 0, "-", "  ^")
        self.marked("", 0, "      -", "        ^", depth=3)

    def test_of_a_blank_line(self):
        self.marked(" " * 20, 19, "-", "", "   ^")

    def test_of_each_word(self):
        for word in WORDS:
            self.marked("abc", 1, "- abc", "   ^", word=word)

    def test_none_where_another_cell_is_named(self):
        for cell in (B, ("a", 1), ("aa", 0)):
            self.page([(A, 0, "abc", fault("kind", 1, cell))], "- abc", "  ! kind at 1 of %s:%d" % cell)
        self.page([(A, 0, "abc", FROM)], "- abc", "  ! from b:1")
        self.page([(A, 0, "abc", ("fault", "from", A))], "- abc", "  ! from a:0")
        self.page([(A, 0, "abc", RING)], "- abc", "  ! ring")
        self.page([(A, 0, "abc", fault("source", 2, A))], "- abc", "    ^", "  ! source")


class Windows(Case):

    lines = ["line %d" % place for place in range(30)]

    def test_the_default_ones(self):
        self.assertEqual(window(self.lines), self.lines[:20])
        self.assertEqual(window(self.lines, top=5), self.lines[5:25])
        self.assertEqual(window(self.lines, rows=3), self.lines[:3])
        self.assertEqual(window(["a"]), ["a"])
        self.assertEqual(window([]), [])

    def test_rows(self):
        for top in (0, 1, 28, 29):
            for rows in (1, 2, 29, 30, 31, 10 ** 59):
                due = [line for place, line in enumerate(self.lines) if top <= place < top + rows]
                self.assertEqual(window(self.lines, top=top, rows=rows), due)
                self.assertEqual(window(rows=rows, top=top, lines=self.lines), due)

    def test_top_at_the_end_and_beyond_it(self):
        for top in (30, 31, 10 ** 59):
            self.assertEqual(window(self.lines, top=top, rows=5), [])
        self.assertEqual(window([], top=1, rows=1), [])

    def test_told_lists_are_new(self):
        lines = ["a", "b"]
        told = window(lines)
        told.append("c")
        self.assertEqual(lines, ["a", "b"])
        told = window(lines, top=0, rows=2)
        lines.clear()
        self.assertEqual(told, ["a", "b"])


def row_of(text, hidden=(), cell=A):
    """A cell's row: the signs of a text, those of the hidden numbers not shown."""
    return [(("a", 9, place), None if place in hidden else sign) for place, sign in enumerate(text)]


class Cursors(Case):

    def place(self, sign, text, due, *, hidden=(), cells=None, depth=0, width=20, answer=None):
        row = row_of(text, hidden)
        shown = "".join(sign_ for _, sign_ in row if sign_ is not None)
        cells = [(A, depth, shown, answer)] if cells is None else cells
        name = None if sign is None else ("a", 9, sign)
        before = copy.deepcopy((cells, row))
        self.assertEqual(repr(place_of((A, name), cells, row, width=width)), repr(due))
        self.assertEqual(repr(plain_place((A, name), cells, row, width=width)), repr(due))
        self.assertEqual((cells, row), before)

    def test_at_the_beginning(self):
        self.place(None, "abc", (0, 2))
        self.place(None, "abc", (0, 6), depth=2)
        self.place(None, "abc", (0, 2), hidden=(0, 1, 2))

    def test_behind_a_shown_sign(self):
        self.place(0, "abc", (0, 3))
        self.place(1, "abc", (0, 4))

    def test_behind_the_last_sign(self):
        self.place(2, "abc", (0, 5))
        self.place(2, "abc", (0, 15), depth=9)

    def test_behind_one_that_isn_t_shown(self):
        self.place(0, "abc", (0, 2), hidden=(0,))
        self.place(1, "abc", (0, 3), hidden=(1,))
        self.place(2, "abc", (0, 3), hidden=(1, 2))
        self.place(2, "abc", (0, 4), hidden=(0,))
        self.place(3, "abcdef", (0, 4), hidden=(1, 3, 4))

    def test_of_an_empty_text(self):
        self.place(None, "", (0, 2))
        for sign in range(3):
            self.place(sign, "abc", (0, 2), hidden=(0, 1, 2))

    def test_at_a_piece_s_edge(self):
        text = "a" * 18 + "b" * 18 + "c"
        self.place(16, text, (0, 19))
        self.place(17, text, (1, 2))
        self.place(18, text, (1, 3))
        self.place(35, text, (2, 2))
        self.place(36, text, (2, 3))
        self.place(17, "a" * 18, (0, 20))
        self.place(35, "a" * 36, (1, 20))
        self.place(36, text, (1, 20), hidden=(36,))

    def test_lines_ahead(self):
        cells = [(B, 0, "x" * 30, number(3)), (A, 1, "abc", None), (C, 0, "abc", None)]
        self.place(1, "abc", (3, 6), cells=cells)

    def test_a_mark_between_two_pieces(self):
        text = "a" * 18 + "b" * 5
        self.place(20, text, (2, 5), answer=fault("kind", 3, A))
        self.place(3, text, (0, 6), answer=fault("kind", 3, A))
        self.place(20, text, (1, 5), answer=fault("kind", 20, A))
        self.place(20, text, (1, 5), answer=fault("kind", 3, B))

    def test_of_a_cell_that_isn_t_shown(self):
        self.place(1, "abc", None, cells=[])
        self.place(None, "abc", None, cells=[(B, 0, "abc", None)])

    def test_the_default_width_and_the_names_shown(self):
        cells, row = [(A, 0, "a" * 60, None)], row_of("a" * 60)
        self.assertEqual(place_of((A, ("a", 9, 57)), cells, row), (1, 2))
        self.assertEqual(place_of(cursor=(A, ("a", 9, 56)), cells=cells, row=row), (0, 59))

    def test_like_sets_tell_like_places(self):
        """Whatever is written behind it or struck elsewhere, it stands behind its own sign."""
        for hidden in ((), (4,), (3, 4, 5)):
            self.place(2, "abcdef", (0, 5), hidden=hidden)
        for hidden, due in (((0,), 4), ((0, 1), 3), ((2,), 4)):
            self.place(2, "abcdef", (0, due), hidden=hidden)


def answer_by_chance(chance, cell, text):
    roll = chance.random()
    if roll < 0.2:
        return None
    if roll < 0.5:
        return fault(chance.choice(WORDS), chance.randint(0, len(text)), chance.choice([cell, cell, B]))
    return chance.choice([FROM, RING, number(-MOST), number(3), truth(True), words("z " * chance.randint(0, 30)), numbers(*range(chance.randint(0, 20)))])


class ByChance(Case):

    def test_pages_and_places(self):
        chance = random.Random(371)
        for _ in range(300):
            cells = []
            for number_ in range(chance.randint(0, 6)):
                text = "".join(chance.choice("ab  ") for _ in range(chance.choice([0, 1, 8, 9, 17, 18, 19, 36, chance.randint(0, 200)])))
                cell = ("a", number_)
                cells.append((cell, chance.choice([0, 0, 1, 2, 5, 9, 70]), text, answer_by_chance(chance, cell, text)))
            width = chance.choice([20, 21, 22, 30, 60, 119, 120])
            self.assertEqual(repr(page_of(cells, width=width)), repr(plain_page(cells, width)))
            for cell, _, text, _ in cells:
                row = []
                for place, sign in enumerate(text):
                    while chance.random() < 0.3:
                        row.append((("h", len(row), 0), None))
                    row.append((("s", place, 1), sign))
                for name in [None] + chance.sample([name for name, _ in row], min(3, len(row))):
                    self.assertEqual(place_of((cell, name), cells, row, width=width), plain_place((cell, name), cells, row, width))


if __name__ == "__main__":
    unittest.main()
