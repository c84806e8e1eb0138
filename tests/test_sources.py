"""Cells' texts, trees, trees shown, free names (points 2, 11, 12, 13)."""

import random
import unittest

import grammar
from grammar import Writer, bare
from makers import ODD

from leafround.errors import NoSource, NoteError
from leafround.sources import free, shown_cell, shown_tree, told_as

OWN_WORDS = "if then else let in and or not rest for true false len sum text".split()


def num(at, n):
    return ("number", at, n)


def nam(at, x):
    return ("name", at, x)


class Case(unittest.TestCase):

    def told(self, text, due):
        with self.subTest(text=text):
            self.assertEqual(told_as(text), due)

    def tree(self, text, due):
        self.told(text, ("shows", due))

    def refused(self, text, at):
        with self.subTest(text=text):
            with self.assertRaises(NoSource) as held:
                told_as(text)
            self.assertEqual(held.exception.at, at)
            self.assertIsInstance(held.exception, NoteError)

    def shows(self, *texts):
        """Texts that are shown as they are: with just the brackets and blanks needed."""
        for text in texts:
            with self.subTest(text=text):
                self.assertEqual(shown_tree(told_as(text)[1]), text)
                self.assertEqual(shown_cell(told_as(text)), text)


class Texts(Case):

    def test_empty(self):
        for text in ("", " ", "   ", " " * 400):
            self.told(text, ("empty",))

    def test_remarks(self):
        for text, behind in (("#", ""), ("#a", "a"), ("# a ", " a "), ("  # a  b ", " a  b "), ("##", "#"), ("#'", "'"),
                             ("# x = 1", " x = 1"), ("#" + "~" * 399, "~" * 399)):
            self.told(text, ("remark", behind))

    def test_gives(self):
        self.told("x = 3", ("gives", "x", (), num(4, 3)))
        self.told("  abcdefgh=x ", ("gives", "abcdefgh", (), nam(11, "x")))
        self.told("f(a) = a", ("gives", "f", ("a",), nam(7, "a")))
        self.told("f(a,b,c,d)=b", ("gives", "f", ("a", "b", "c", "d"), nam(11, "b")))
        self.told(" f ( b , a ) = 1", ("gives", "f", ("b", "a"), num(15, 1)))
        self.told("f(f) = f", ("gives", "f", ("f",), nam(7, "f")))
        self.told("x = (x == 1)", ("gives", "x", (), ("sign", 5, "==", nam(5, "x"), num(10, 1))))

    def test_shows(self):
        self.tree("3", num(0, 3))
        self.tree(" x == 3", ("sign", 1, "==", nam(1, "x"), num(6, 3)))
        self.tree("f(a)", ("call", 0, "f", (nam(2, "a"),)))
        self.tree("f(a) == 1", ("sign", 0, "==", ("call", 0, "f", (nam(2, "a"),)), num(8, 1)))
        self.tree("f(a, a)", ("call", 0, "f", (nam(2, "a"), nam(5, "a"))))

    def test_words_begin_just_so_up_to_the_sign(self):
        for text, at in (
            ("f(1) = 2", 5), ("f(a, 1) = 2", 8), ("f() = 2", 2), ("f(a,) = 2", 4), ("(x) = 2", 4), ("x[0] = 2", 5),
            ("-x = 2", 3), ("f(a)(b) = 2", 4), ("1 = 2", 2), ("'x' = 2", 4), ("true = 2", 5), ("= 2", 0), ("x y = 2", 2),
            ("f(a b) = 2", 4), ("f(a,b,c,d,e) = 1", 9), ("f(a) + 1 = 2", 9), ("f((a)) = 2", 7), ("f(a = 2", 4),
        ):
            self.refused(text, at)

    def test_an_argument_told_twice(self):
        self.refused("f(a, a) = 1", 5)
        self.refused("f(a, b, a) = 1", 8)
        self.refused("f(a, b, b, a) = 1", 8)
        self.refused("f(a, b, c, a) = ", 11)
        self.refused("f(a, a) = )", 5)

    def test_no_other_signs(self):
        for text in ("\u00e9", "x\n", "\t", "# \u00e9", "x" * 500 + "\n", " \x7f", "\x1f", "'\u00e9'", "1 + \n", "\ud800", "\x00"):
            self.refused(text, 0)

    def test_what_is_no_text(self):
        for thing in ODD:
            if not isinstance(thing, str):
                self.refused(thing, 0)
        self.refused(["3"], 0)
        self.refused(("shows", num(0, 3)), 0)
        self.refused(b"3", 0)
        self.refused(3, 0)

    def test_at_most_400_signs(self):
        sums = "1" + " + 1" * 99 + "   "
        self.assertEqual(len(sums), 400)
        self.assertEqual(told_as(sums)[0], "shows")
        for text in (sums + " ", " " * 401, "#" + "x" * 400, "1" + " + 1" * 200, "x = '" + "a" * 395 + "'", " " * 5000):
            self.refused(text, 400)
        self.told("x = '" + "a" * 394 + "'", ("gives", "x", (), ("words", 4, "a" * 394)))
        self.refused("1" + " " * 398 + "+", 400)
        self.refused(" " * 399 + "A", 399)

    def test_by_arguments_names(self):
        self.assertEqual(told_as(text="3"), ("shows", num(0, 3)))
        self.assertEqual(shown_tree(tree=num(0, 3)), "3")
        self.assertEqual(shown_cell(told=("shows", num(0, 3))), "3")
        self.assertEqual(free(tree=nam(0, "x"), params=()), ["x"])


class Words(Case):

    def test_numbers(self):
        for word in ("0", "1", "9", "10", "1" * 60, "9" * 60):
            self.tree(word, num(0, int(word)))
        for word in ("00", "01", "0" * 60, "1" * 61, "1" * 100, "9" * 300):
            self.refused(word, 0)
            self.refused("x = " + word, 4)
            self.refused("1 + " + word + " +", 4)

    def test_names(self):
        for word in ("a", "z", "abcdefgh", "zzzzzzzz", "i", "iff", "ifthen", "lens", "texts", "restt", "nota", "lent", "truee"):
            self.tree(word, nam(0, word))
        for word in ("abcdefghi", "a" * 100):
            self.refused(word, 0)
            self.refused("[1, " + word, 4)

    def test_own_words_are_no_names(self):
        for word in OWN_WORDS:
            self.refused("let " + word + " = 1 in 2", 4)
            self.refused("[1 for " + word + " in x]", 7)
            # Some may begin an expression, so what stands behind them is what can't stand.
            begins = word in ("if", "let", "not", "true", "false", "len", "sum", "text")
            self.refused(word + " = 1", len(word) + 1 if begins else 0)
            self.refused("f(" + word + ") = 1", len(word) + 2 + (word in ("true", "false")) * 2 if begins else 2)

    def test_letters_beside_figures(self):
        for word in ("a1", "1a", "1then", "12x34", "x0", "0x", "if1"):
            self.refused(word, 0)
            self.refused(" (" + word + ")", 2)
        self.refused("if 1then 2 else 3", 3)
        self.refused("if a then 2else 3", 10)

    def test_blanks_are_needed_between_letters_and_figures_alone(self):
        self.refused("if 1<2then'a'else[]", 5)
        self.tree("if 1<2 then'a'else[]", (
            "if", 0, ("sign", 3, "<", num(3, 1), num(5, 2)), ("words", 11, "a"), ("list", 18, ())))
        self.tree("not(a)and-b", ("and", 0, ("not", 0, nam(4, "a")), ("minus", 9, nam(10, "b"))))
        self.refused("1 2", 2)
        self.refused("notx y", 5)

    def test_quotes(self):
        for text in ("", " ", "a", "\"", "#", "if", "( [", "x" * 100, "1 + 2", "\\n"):
            self.tree("'" + text + "'", ("words", 0, text))
        self.tree("'a'+'b'", ("sign", 0, "+", ("words", 0, "a"), ("words", 4, "b")))
        for text, at in (("'", 0), ("'a", 0), ("1 + 'a", 4), ("'a''", 3), ("'a' 'b", 4), ("'''", 2), ("a = '", 4)):
            self.refused(text, at)
        self.refused("'a''b'", 3)

    def test_a_word_is_as_long_as_can_be(self):
        self.tree("a//b", ("sign", 0, "//", nam(0, "a"), nam(3, "b")))
        self.tree("a<=b", ("sign", 0, "<=", nam(0, "a"), nam(3, "b")))
        self.tree("a!=b", ("sign", 0, "!=", nam(0, "a"), nam(3, "b")))
        self.tree("a==b", ("sign", 0, "==", nam(0, "a"), nam(3, "b")))
        self.tree("a<-b", ("sign", 0, "<", nam(0, "a"), ("minus", 2, nam(3, "b"))))
        self.tree("a--b", ("sign", 0, "-", nam(0, "a"), ("minus", 2, nam(3, "b"))))
        self.refused("a===b", 3)
        self.refused("a = = b", 4)
        self.refused("a< =b", 3)
        self.refused("a///b", 3)
        self.refused("a/ /b", 1)
        self.refused("a**b", 2)
        self.refused("a==-b==c", 5)

    def test_other_signs(self):
        for sign in "!\"#$%&./:;>?@ABZ\\^_`{|}~":
            if sign != "#":
                self.refused(sign, 0)
            self.refused("1 + " + sign, 4)
            self.refused("x " + sign + " 1", 2)
            self.refused("(1 " + sign, 3)
        self.refused("a ! = b", 2)
        self.refused("a > b", 2)
        self.refused("a >= b", 2)

    def test_the_first_that_is_none_or_cannot_stand(self):
        self.refused("1 2 A", 2)
        self.refused("1 A 2 3", 2)
        self.refused(") '", 0)
        self.refused("(1 + ) $", 5)


class Forms(Case):

    def test_if(self):
        self.tree("if a then b else c", ("if", 0, nam(3, "a"), nam(10, "b"), nam(17, "c")))
        self.tree("if a then b else if c then d else e",
                  ("if", 0, nam(3, "a"), nam(10, "b"), ("if", 17, nam(20, "c"), nam(27, "d"), nam(34, "e"))))
        self.tree("if a then b else c + 1", ("if", 0, nam(3, "a"), nam(10, "b"), ("sign", 17, "+", nam(17, "c"), num(21, 1))))
        self.tree("if if a then b else c then let x = 1 in x else d", (
            "if", 0, ("if", 3, nam(6, "a"), nam(13, "b"), nam(20, "c")), ("let", 27, "x", num(35, 1), nam(40, "x")), nam(47, "d")))

    def test_let(self):
        self.tree("let x = 1 in x", ("let", 0, "x", num(8, 1), nam(13, "x")))
        self.tree("let x = let y = 1 in y in if x then 1 else 2", (
            "let", 0, "x", ("let", 8, "y", num(16, 1), nam(21, "y")), ("if", 26, nam(29, "x"), num(36, 1), num(43, 2))))

    def test_or_and_not(self):
        self.tree("a or b and c or d", (
            "or", 0, ("or", 0, nam(0, "a"), ("and", 5, nam(5, "b"), nam(11, "c"))), nam(16, "d")))
        self.tree("a and b and c", ("and", 0, ("and", 0, nam(0, "a"), nam(6, "b")), nam(12, "c")))
        self.tree("not not a == b", ("not", 0, ("not", 4, ("sign", 8, "==", nam(8, "a"), nam(13, "b")))))
        self.tree("not a and not b or c", (
            "or", 0, ("and", 0, ("not", 0, nam(4, "a")), ("not", 10, nam(14, "b"))), nam(19, "c")))

    def test_signs(self):
        for sign in ("==", "!=", "<", "<=", "+", "-", "*", "//", "rest"):
            self.tree("a " + sign + " b", ("sign", 0, sign, nam(0, "a"), nam(3 + len(sign), "b")))
        for sign in ("+", "-"):
            for other in ("+", "-"):
                self.tree(f"a{sign}b{other}c", ("sign", 0, other, ("sign", 0, sign, nam(0, "a"), nam(2, "b")), nam(4, "c")))
            self.tree(f"a{sign}b*c", ("sign", 0, sign, nam(0, "a"), ("sign", 2, "*", nam(2, "b"), nam(4, "c"))))
        self.tree("a*b//c", ("sign", 0, "//", ("sign", 0, "*", nam(0, "a"), nam(2, "b")), nam(5, "c")))
        self.tree("a//b rest c", ("sign", 0, "rest", ("sign", 0, "//", nam(0, "a"), nam(3, "b")), nam(10, "c")))
        self.tree("a+b<c*d", ("sign", 0, "<", ("sign", 0, "+", nam(0, "a"), nam(2, "b")),
                              ("sign", 4, "*", nam(4, "c"), nam(6, "d"))))

    def test_comparisons_not_in_a_row(self):
        for one in ("==", "!=", "<", "<="):
            for other in ("==", "!=", "<", "<="):
                self.refused(f"a {one} b {other} c", 5 + len(one))
                self.refused(f"[a {one} b {other} c]", 6 + len(one))
                self.assertEqual(told_as(f"(a {one} b) {other} c")[1][2], other)
                self.assertEqual(told_as(f"a {one} (b {other} c)")[1][2], one)

    def test_minus_and_pick(self):
        self.tree("--a", ("minus", 0, ("minus", 1, nam(2, "a"))))
        self.tree("-a[0]", ("minus", 0, ("pick", 1, nam(1, "a"), num(3, 0))))
        self.tree("(-a)[0]", ("pick", 1, ("minus", 1, nam(2, "a")), num(5, 0)))
        self.tree("-a*-b", ("sign", 0, "*", ("minus", 0, nam(1, "a")), ("minus", 3, nam(4, "b"))))
        self.tree("a[b][c]", ("pick", 0, ("pick", 0, nam(0, "a"), nam(2, "b")), nam(5, "c")))
        self.tree("a[if b then c else d]", ("pick", 0, nam(0, "a"), ("if", 2, nam(5, "b"), nam(12, "c"), nam(19, "d"))))
        self.tree("[1][0]", ("pick", 0, ("list", 0, (num(1, 1),)), num(4, 0)))
        self.tree("'ab' [1]", ("pick", 0, ("words", 0, "ab"), num(6, 1)))
        self.tree("f(a)[1]", ("pick", 0, ("call", 0, "f", (nam(2, "a"),)), num(5, 1)))

    def test_closed_ones(self):
        self.tree("true", ("truth", 0, True))
        self.tree("false", ("truth", 0, False))
        for word in ("len", "sum", "text"):
            self.tree(f"{word} (a)", ("own", 0, word, nam(len(word) + 2, "a")))
        self.tree("[]", ("list", 0, ()))
        self.tree("[ ]", ("list", 0, ()))
        self.tree("[1,[2],a or b]", ("list", 0, (num(1, 1), ("list", 3, (num(4, 2),)), ("or", 7, nam(7, "a"), nam(12, "b")))))
        self.tree("[a for b in c]", ("each", 0, nam(1, "a"), "b", nam(12, "c"), None))
        self.tree("[a for b in c if d]", ("each", 0, nam(1, "a"), "b", nam(12, "c"), nam(17, "d")))
        self.tree("[a for b in if c then d else e if g]", (
            "each", 0, nam(1, "a"), "b", ("if", 12, nam(15, "c"), nam(22, "d"), nam(29, "e")), nam(34, "g")))
        self.tree("((a))", nam(2, "a"))

    def test_at_is_that_of_the_left_one(self):
        self.tree("(1 + 2) * 3", ("sign", 1, "*", ("sign", 1, "+", num(1, 1), num(5, 2)), num(10, 3)))
        self.tree("((a)) [0]", ("pick", 2, nam(2, "a"), num(7, 0)))
        self.tree("(not a) or b", ("or", 1, ("not", 1, nam(5, "a")), nam(11, "b")))
        self.tree("not (a)", ("not", 0, nam(5, "a")))
        self.tree("- (a)", ("minus", 0, nam(3, "a")))
        self.tree("x == (a)", ("sign", 0, "==", nam(0, "x"), nam(6, "a")))

    def test_arguments_one_to_four(self):
        for many in range(1, 5):
            given = tuple(num(2 + 2 * i, i) for i in range(many))
            self.tree("f(" + ",".join(str(i) for i in range(many)) + ")", ("call", 0, "f", given))
        self.refused("f()", 2)
        self.refused("f(1,2,3,4,5)", 9)
        self.refused("f(1,2,3,4,)", 9)
        self.refused("f(1,)", 4)
        for word in ("len", "sum", "text"):
            self.refused(word + "()", len(word) + 1)
            self.refused(word + "(1,2)", len(word) + 2)
            self.refused(word, len(word))
            self.refused(word + " 1", len(word) + 1)

    def test_lists_of_forty(self):
        forty = "[" + "1," * 39 + "1"
        self.assertEqual(len(told_as(forty + "]")[1][2]), 40)
        self.refused(forty + ",1]", 80)
        self.refused(forty + ",", 80)
        self.refused("[1,]", 3)
        self.refused("[,1]", 1)

    def test_what_cannot_stand(self):
        for text, at in (
            ("1 + if a then b else c", 4), ("1 + let x = 1 in x", 4), ("1 + not a", 4), ("a == not b", 5), ("- not a", 2),
            ("a or if b then c else d", 5), ("a and let x = 1 in x", 6), ("not if a then b else c", 4), ("a or or b", 5),
            ("a * + b", 4), ("+ a", 0), ("* a", 0), ("then", 0), ("else", 0), ("in", 0), ("for", 0), ("rest", 0),
            ("if a else b", 5), ("if a then b then c", 12), ("if then", 3), ("let 1 = 2 in 3", 4), ("let x 1", 6),
            ("let x == 1", 6), ("let x = 1, 2", 9), ("[a for 1 in b]", 7), ("[a for b c]", 9), ("[a, b for c in d]", 6),
            ("[a for b in c, d]", 13), ("[a for b in c for d in e]", 14), ("[for a in b]", 1), ("a]", 1), ("a)", 1),
            ("(a]", 2), ("[a)", 2), ("()", 1), ("a[]", 2), ("a[1,2]", 3), ("1(2)", 1), ("'a'(2)", 3), ("(f)(2)", 3),
            ("f(1)(2)", 4), ("true(1)", 4), ("a b", 2), ("a , b", 2), ("a = b = c", 6), ("f(a = 1)", 4), ("a[0](1)", 4),
            ("a not b", 2), ("a if b", 2), ("[a if b]", 3), ("if a then b else c else d", 19),
        ):
            self.refused(text, at)

    def test_where_one_lacks(self):
        for text in ("1 +", "1 + ", "(", "(1", "[", "[1", "[1,", "[1 for", "[1 for x", "[1 for x in", "[1 for x in y",
                     "[1 for x in y if", "[1 for x in y if z", "if", "if a", "if a then", "if a then b", "if a then b else",
                     "let", "let x", "let x =", "let x = 1", "let x = 1 in", "not", "-", "f(", "f(a", "f(a,", "a[", "a[0",
                     "len", "len(", "len(a", "x =", "x =  ", "f(a) =", "a ==", "a or", "a and", "a rest ", "not not "):
            self.refused(text, len(text))

    def test_twelve_within_one_another(self):
        # What opens, which sign of it, what closes.
        kinds = [("(", 0, ")"), ("[", 0, "]"), ("not ", 0, ""), ("-", 0, ""), ("f(", 1, ")"), ("len(", 3, ")"),
                 ("a[", 1, "]"), ("if ", 0, " then 1 else 2"), ("if 1 then ", 0, " else 2"), ("if 1 then 2 else ", 0, ""),
                 ("let x = ", 0, " in 2"), ("let x = 1 in ", 0, ""), ("[", 0, " for x in y]"), ("[x for x in ", 0, "]"),
                 ("[x for x in y if ", 0, "]")]
        for opening, at, closing in kinds:
            for outer, end in (("(", ")"), ("[", "]"), ("f(", ")"), ("if 1 then 2 else ", ""), ("let x = 1 in ", "")):
                self.assertEqual(told_as(outer * 11 + opening + "a" + closing + end * 11)[0], "shows")
                self.refused(outer * 12 + opening + "a" + closing + end * 12, len(outer) * 12 + at)
            if opening[-1] not in "-" and not opening.startswith("not"):
                twelve = opening * 12 + "a" + closing * 12
                self.assertEqual(told_as(twelve)[0], "shows")
                if len(twelve) + len(opening + closing) <= 400:
                    self.refused(opening * 13 + "a" + closing * 13, len(opening) * 12 + at)

    def test_each_till_its_own_end(self):
        self.assertEqual(told_as(" + ".join(["(a)"] * 20))[0], "shows")
        self.assertEqual(told_as(" and ".join(["not a"] * 20))[0], "shows")
        self.assertEqual(told_as(" * ".join(["-a"] * 20))[0], "shows")
        self.assertEqual(told_as("a" + "[0]" * 20)[0], "shows")
        self.assertEqual(told_as("[" + ", ".join(["if a then b else c"] * 15) + "]")[0], "shows")
        self.assertEqual(told_as("[" + ", ".join(["let a = b in c"] * 15) + "]")[0], "shows")
        self.assertEqual(told_as("f(a) + " * 20 + "[a for b in c if d] + len(a)")[0], "shows")
        for one in ("[]", "[a]", "[a for b in c]", "len(a)", "text([a])", "a[b]", "f(a, b)", "(-a)", "(not a)"):
            self.assertEqual(told_as(" + ".join([one] * 20))[0], "shows")
            # What has ended counts no more, and not twice.
            self.assertEqual(told_as(one + " + " + "(" * 12 + "a" + ")" * 12)[0], "shows")
            self.refused(one + " + " + "(" * 13 + "a" + ")" * 13, len(one) + 3 + 12)
        for one in ("if a then b else c", "let x = a in b", "not a"):
            self.assertEqual(told_as("[" + one + ", " + "(" * 11 + "a" + ")" * 11 + "]")[0], "shows")
            self.refused("[" + one + ", " + "(" * 12 + "a" + ")" * 12 + "]", len(one) + 3 + 11)
        self.assertEqual(told_as("(" * 11 + "(a) + (b)" + ")" * 11)[0], "shows")
        self.assertEqual(told_as("(" * 11 + "[x for x in y if z]" + ")" * 11)[0], "shows")
        self.assertEqual(told_as("f(a, b) = " + "(" * 12 + "a" + ")" * 12)[0], "gives")
        self.refused("(" * 12 + "[x for x in y if z]" + ")" * 12, 12)
        self.refused("f(a, b) = " + "(" * 13 + "a" + ")" * 13, 22)
        self.refused("if a then b else " * 13 + "c", 17 * 12)
        self.refused("not " * 13 + "a", 48)
        self.refused("-" * 13 + "a", 12)
        self.refused("- " * 6 + "(" * 6 + "[", 18)


class Shown(Case):

    def test_just_the_brackets_needed(self):
        self.shows(
            "(1 + 2) * 3", "1 + 2 * 3", "1 - (2 - 3)", "1 - 2 - 3", "1 * (2 // 3)", "1 * 2 // 3", "a rest (b rest c)",
            "(a == b) == c", "a == (b == c)", "a + 1 == b * 2", "not a == b", "(not a) == b", "not (a or b)", "not not a",
            "(a or b) and c", "a or b and c", "a and (b or c)", "a or (b or c)", "a or b or c", "a and b and c",
            "a and (b and c)", "a and not b", "-a", "--a", "-(a + b)", "-a + b", "a - -b", "-a[0]", "(-a)[0]", "(a + b)[0]",
            "a[0][1]", "a[b[0]]", "-(a * b)", "-a * b", "a * -b", "(not a) + 1", "-(not a)", "'a'[0]", "[1, 2][0]", "f(a)[0]",
            "(if a then b else c) + 1", "if a then b else c + 1", "(let x = 1 in x) or a", "let x = 1 in x or a",
            "a + (if b then c else d)", "not (if a then b else c)", "if if a then b else c then d else e",
            "let x = let y = 1 in y in x", "[if a then b else c for x in let y = 1 in y if not x]",
            "f(if a then b else c, let x = 1 in x)", "len([])", "sum([1, 2])", "text(-1)", "[]", "[[], [[]]]", "true", "false",
            "(if a then b else c)[if a then b else c]", "a == -b", "a < b + 1", "a <= b", "a != b", "a // b", "''", "' '",
        )

    def test_brackets_and_blanks_not_needed(self):
        for text, due in (
            ("((1))", "1"), ("(1 * 2) + 3", "1 * 2 + 3"), ("(1+2)-3", "1 + 2 - 3"), ("  a   [ 0 ] ", "a[0]"),
            ("f ( a,b )", "f(a, b)"), ("len ( a )", "len(a)"), ("[ 1 ,2 ]", "[1, 2]"), ("[ ]", "[]"), ("- - a", "--a"),
            ("- (a)", "-a"), ("not(not(a))", "not not a"), ("(not a)and b", "not a and b"), ("(a)[(0)]", "a[0]"),
            ("[(a)for b in(c)if(d)]", "[a for b in c if d]"), ("if(a)then(b)else(c)", "if a then b else c"),
            ("let x=(1)in(x)", "let x = 1 in x"), ("(-a)*(-b)", "-a * -b"), ("-(-(a))", "--a"), ("(a and b) or c", "a and b or c"),
            ("(a==b)and(c<d)", "a == b and c < d"), ("not (a == b)", "not a == b"), ("(let x = 1 in (if a then b else c))",
                                                                                "let x = 1 in if a then b else c"),
        ):
            self.assertEqual(shown_tree(told_as(text)[1]), due)

    def test_cells(self):
        for text, due in (
            ("", ""), ("   ", ""), ("#", "#"), ("  # a  b ", "# a  b "), ("x=1", "x = 1"), (" f ( a ,b )=a+b", "f(a, b) = a + b"),
            ("#empty", "#empty"), ("#shows", "#shows"), ("f(a)=(a)", "f(a) = a"), ("f(a,b,c,d)=[]", "f(a, b, c, d) = []"), (" ( x ) ", "x"), ("x==1", "x == 1"),
        ):
            self.assertEqual(shown_cell(told_as(text)), due)

    def test_trees_handed_in(self):
        tree = ("sign", 7, "*", ("sign", 9, "+", ("number", 0, 1), ("name", 3, "x")), ("minus", 2, ("words", 1, "a b")))
        self.assertEqual(shown_tree(tree), "(1 + x) * -'a b'")
        self.assertEqual(shown_cell(("gives", "f", ("x",), tree)), "f(x) = (1 + x) * -'a b'")
        self.assertEqual(shown_cell(("gives", "f", (), tree)), "f = (1 + x) * -'a b'")
        self.assertEqual(shown_cell(("shows", tree)), "(1 + x) * -'a b'")
        self.assertEqual(shown_cell(("remark", " x")), "# x")
        self.assertEqual(shown_cell(("empty",)), "")

    def test_more_than_a_text_can_hold(self):
        for kind, opening in (("minus", "-"), ("not", "not ")):
            tree = nam(0, "a")
            for _ in range(400):
                tree = (kind, 0, tree)
            self.assertEqual(shown_tree(tree), opening * 400 + "a")
            self.assertEqual(free(tree, ()), ["a"])
        tree = nam(0, "a")
        for _ in range(400):
            tree = ("sign", 0, "+", tree, num(0, 1))
        self.assertEqual(shown_tree(tree), "a" + " + 1" * 400)
        self.assertEqual(free(tree, ()), ["a"])

    def test_the_longest_sum(self):
        text = "x" + "+x" * 199
        self.assertEqual(shown_tree(told_as(text)[1]), "x" + " + x" * 199)
        self.assertEqual(free(told_as(text)[1], ()), ["x"])


class Free(Case):

    def free(self, text, due, params=()):
        told = told_as(text)
        self.assertEqual(free(told[-1], params), due, text)
        self.assertEqual(free(told[-1], list(params)), due, text)

    def test_in_the_text_s_order(self):
        self.free("1 + 'a' + []", [])
        self.free("b + a + b + c", ["b", "a", "c"])
        self.free("f(b, a)[c]", ["f", "b", "a", "c"])
        self.free("if c then b else a", ["c", "b", "a"])
        self.free("[d for x in c if b]", ["d", "c", "b"])
        self.free("not -len(text(z)) == y or w and v", ["z", "y", "w", "v"])

    def test_let(self):
        self.free("let x = x in x + y", ["x", "y"])
        self.free("let x = y in x", ["y"])
        self.free("(let x = 1 in x) + x", ["x"])
        self.free("let x = 1 in let y = x in x + y + z", ["z"])
        self.free("let f = 1 in f(a) + g(f)", ["a", "g"])

    def test_each(self):
        self.free("[x + y for x in x if x == z]", ["y", "x", "z"])
        self.free("[x for x in a] + x", ["a", "x"])
        self.free("[[x + y for y in x] for x in y]", ["y"])
        self.free("[f(1) for f in a if f(2)]", ["a"])

    def test_arguments(self):
        self.free("f(a, b) = a + b + c + f(a)", ["c", "f"], ("a", "b"))
        self.free("f(g) = g(1)", [], ("g",))
        self.free("x", [], ("x",))
        self.free("let a = b in a", [], ("b",))

    def test_told_lists_are_new(self):
        tree = told_as("a + b")[1]
        free(tree, ()).clear()
        self.assertEqual(free(tree, ()), ["a", "b"])


class Chance(Case):

    def written(self, chance, room=5):
        while True:
            writer = Writer(chance)
            tree = writer.tree(0, chance.randint(1, room))
            if len(writer.text) <= 400:
                return writer.text, tree

    def test_each_text_is_told_as_its_tree(self):
        chance = random.Random(31)
        for _ in range(1500):
            text, tree = self.written(chance)
            self.tree(text, tree)
            self.told(text + "  ", ("shows", tree))

    def test_shown_and_told_again(self):
        chance = random.Random(32)
        for _ in range(1500):
            tree = self.written(chance)[1]
            text = shown_tree(tree)
            if len(text) <= 400:
                self.assertEqual(bare(told_as(text)[1]), bare(tree))
                self.assertEqual(shown_tree(told_as(text)[1]), text)
                self.assertEqual(shown_tree(bare(tree)), text)

    def test_no_brackets_and_no_blanks_too_many(self):
        chance = random.Random(33)
        for _ in range(400):
            tree = self.written(chance)[1]
            text = shown_tree(tree)
            quoted = [text[:at].count("'") % 2 == 1 for at in range(len(text))]
            for at, sign in enumerate(text):
                if quoted[at]:
                    continue
                if sign == "(" and not text[at - 1:at].isalpha():
                    self.fails_without(text, at, self.end_of(text, at), tree)
                if sign == " ":
                    self.assertNotIn(text[at - 1], " ([")
                    self.assertNotIn(text[at + 1], " )],")
                if sign == ",":
                    self.assertEqual(text[at + 1], " ")

    def end_of(self, text, at):
        within, quoted = 0, False
        for end in range(at, len(text)):
            quoted ^= text[end] == "'"
            within += 0 if quoted else {"(": 1, ")": -1}.get(text[end], 0)
            if within == 0:
                return end
        raise AssertionError(text)

    def fails_without(self, text, at, end, tree):
        other = text[:at] + " " + text[at + 1:end] + " " + text[end + 1:]
        try:
            self.assertNotEqual(bare(told_as(other)[-1]), bare(tree))
        except NoSource:
            pass

    def test_free_names(self):
        chance = random.Random(34)
        for _ in range(800):
            tree = self.written(chance)[1]
            params = tuple(chance.sample(["a", "b", "x"], chance.randint(0, 2)))
            due = list(dict.fromkeys(grammar.free_in(tree, set(params))))
            self.assertEqual(free(tree, params), due)

    def test_where_a_text_fails(self):
        chance = random.Random(35)
        pieces = [" ", "(", ")", "[", "]", ",", "=", "==", "+", "-", "1", "0", "a", "'", "/", "A", " if ", " then ", " not ",
                  " in ", " for ", " let ", " else ", " or ", "f(", "len("]
        failed = 0
        for _ in range(500):
            text = self.written(chance, 4)[0][:60]
            for _ in range(chance.randint(0, 2)):
                at = chance.randint(0, len(text))
                text = text[:at] + chance.choice(pieces) + text[at + chance.choice([0, 0, 1, 3]):]
            if chance.random() < 0.2:
                text = chance.choice(["x = ", "f(a) = ", "f(a, b) = ", "f(a, 1) = ", "f(a, b, c, d, g)="]) + text
            if text.lstrip(" ")[:1] in ("", "#"):
                continue
            due = grammar.wrong_at(text)
            if due is None:
                self.assertIn(told_as(text)[0], ("shows", "gives"))
            else:
                failed += 1
                self.refused(text, due)
        self.assertGreater(failed, 100)


if __name__ == "__main__":
    unittest.main()
