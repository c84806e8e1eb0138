"""Answers, faults, steps, depth and reads, by meaning and by the machine (points 2, 14, 15, 16)."""

import copy
import random
import unittest

from plain import Maker, plain_meaning, world_by_chance
from terms import CELL, MOST, answer, balanced, body, chain, fault, items, nested, num, number, numbers, truth, words

from leafround.machine import rows_of, run
from leafround.meaning import STEPS, meaning
from leafround.sources import told_as


class Case(unittest.TestCase):
    maxDiff = None

    def all_of(self, tree, world, steps=STEPS):
        """What meaning tells; the machine tells the same, nothing is changed."""
        before = copy.deepcopy((tree, world))
        told = meaning(CELL, tree, world, steps=steps)
        rows = rows_of(tree)
        kept = copy.deepcopy(rows)
        ran = run(CELL, rows, world, steps=steps)
        self.assertEqual(repr(ran), repr(told))
        self.assertEqual(repr(run(CELL, rows, world, steps=steps)), repr(told))
        self.assertEqual(rows, kept)
        self.assertEqual((tree, world), before)
        for one in (told, ran):
            self.assertIsInstance(one, tuple)
            self.assertIsInstance(one[2], list)
        return told

    def means(self, text, due, world=None, steps=None, reads=None):
        with self.subTest(text=text):
            told = self.all_of(told_as(text)[-1], world or {})
            self.assertEqual(repr(told[0]), repr(due))
            if steps is not None:
                self.assertEqual(told[1], steps)
            if reads is not None:
                self.assertEqual([name for name, _ in told[2]], reads)
                for name, lead in told[2]:
                    self.assertEqual(lead, (world or {}).get(name, ("nobody",)))

    def tree_means(self, tree, due, world=None, steps=STEPS, many=None):
        told = self.all_of(tree, world or {}, steps)
        self.assertEqual(repr(told[0]), repr(due))
        if many is not None:
            self.assertEqual(told[1], many)


OPERANDS = {"number": ("7", number(7)), "truth": ("true", truth(True)), "words": ("'ab'", words("ab")),
            "list": ("[1, 'a']", items(number(1), words("a")))}


class Signs(Case):

    def every_pair(self, sign, due):
        """due: what pairs of kinds give; all others are kind."""
        for one in OPERANDS:
            for other in OPERANDS:
                text = OPERANDS[one][0] + " " + sign + " " + OPERANDS[other][0]
                self.means(text, due.get((one, other), fault("kind", 0)))

    def test_plus(self):
        self.every_pair("+", {("number", "number"): number(14), ("words", "words"): words("abab"), ("list", "list"):
                              items(number(1), words("a"), number(1), words("a"))})
        self.means("[] + []", items())
        self.means("'' + ''", words(""))

    def test_minus_times_and_parts(self):
        for sign, due in (("-", 0), ("*", 49), ("//", 1), ("rest", 0)):
            self.every_pair(sign, {("number", "number"): number(due)})

    def test_order(self):
        self.every_pair("<", {("number", "number"): truth(False), ("words", "words"): truth(False)})
        self.every_pair("<=", {("number", "number"): truth(True), ("words", "words"): truth(True)})
        for text, due in (("1 < 2", True), ("2 < 1", False), ("-3 < -2", True), ("2 <= 1", False), ("-1 <= 0", True), ("'a' < 'b'", True),
                          ("'' < 'a'", True), ("'a' < 'a '", True), ("'B' < 'a'", True), ("'ab' < 'b'", True), ("'b' <= 'ab'", False),
                          ("'~' < 'z'", False), ("10 < 9", False), ("'10' < '9'", True)):
            self.means(text, truth(due))

    def test_equal(self):
        for one in OPERANDS:
            for other in OPERANDS:
                pair = (OPERANDS[one][0], OPERANDS[other][0])
                self.means("%s == %s" % pair, truth(one == other))
                self.means("%s != %s" % pair, truth(one != other))
        for text, due in (("1 == true", False), ("0 == false", False), ("true == 1", False), ("[1] == [true]", False), ("[0] == [false]", False),
                          ("[[1]] == [[true]]", False), ("'1' == 1", False), ("[] == ''", False), ("[] == []", True), ("'' == ''", True),
                          ("[1, 2] == [1] + [2]", True), ("[1, 2] == [x + 1 for x in [0, 1]]", True), ("[1, 2] == [2, 1]", False),
                          ("[1] == [1, 1]", False), ("[[]] == []", False), ("[[1, 'a'], [true]] == [[1, 'a']] + [[not false]]", True),
                          ("'a' == 'A'", False), ("false == (not true)", True), ("2 == 1 + 1", True), ("-0 == 0", True), ("true == false", False)):
            self.means(text, truth(due))
            self.means(text.replace(" == ", " != ", 1), truth(not due))

    def test_parts_of_numbers_below_nought(self):
        for one, other, part, rest in ((7, 2, 3, 1), (-7, 2, -4, 1), (7, -2, -4, -1), (-7, -2, 3, -1), (6, -3, -2, 0), (-6, 3, -2, 0),
                                       (0, -5, 0, 0), (1, -5, -1, -4), (-1, 5, -1, 4), (MOST, 7, MOST // 7, MOST % 7)):
            self.tree_means(("sign", 0, "//", num(one), num(other)), number(part))
            self.tree_means(("sign", 0, "rest", num(one), num(other)), number(rest))
        self.means("-7 // 2", number(-4))
        self.means("-7 rest 2", number(1))
        self.means("7 rest -2", number(-1))

    def test_nought(self):
        self.means("1 // 0", fault("nought", 0))
        self.means("1 rest 0", fault("nought", 0))
        self.means("0 // 0", fault("nought", 0))
        self.means("2 + (3 + 4) // (1 - 1)", fault("nought", 5))
        self.means("2 + 3 rest 0", fault("nought", 4))

    def test_minus_ahead_and_not(self):
        for kind in OPERANDS:
            text, worth = OPERANDS[kind]
            self.means("-" + text, number(-7) if kind == "number" else fault("kind", 0))
            self.means("not " + text, truth(False) if kind == "truth" else fault("kind", 0))
        self.means("--5", number(5))
        self.means("-0", number(0))
        self.means("not not true", truth(True))
        self.means("not false", truth(True))
        self.means("1 + -'a'", fault("kind", 4))
        self.means("true and not 1", fault("kind", 9))


class OwnWords(Case):

    def test_operands_of_each_kind(self):
        for kind in OPERANDS:
            text = OPERANDS[kind][0]
            self.means("len(" + text + ")", number(2) if kind in ("words", "list") else fault("kind", 0))
            self.means("sum(" + text + ")", fault("kind", 0))
            written = {"number": "7", "truth": "true", "words": "ab"}
            self.means("text(" + text + ")", words(written[kind]) if kind in written else fault("kind", 0))

    def test_len(self):
        for text, due in (("len('')", 0), ("len([])", 0), ("len([[1, 2], 3])", 2), ("len('a b')", 3)):
            self.means(text, number(due))

    def test_sum(self):
        for text, due in (("sum([])", 0), ("sum([5])", 5), ("sum([1, -2, 3])", 2), ("sum([x * x for x in [1, 2, 3]])", 14)):
            self.means(text, number(due))
        for text in ("sum([1, true])", "sum(['a'])", "sum([[1]])", "sum([1, 2, '3'])", "sum([false])"):
            self.means(text, fault("kind", 0))
        # What is made is looked at when all are there: it may be beyond the bounds in between.
        self.means("sum([%d, %d, -%d])" % (MOST, MOST, MOST), number(MOST))

    def test_text(self):
        for text, due in (("text(0)", "0"), ("text(-12)", "-12"), ("text(false)", "false"), ("text('a b')", "a b"), ("text('')", ""),
                          ("text(%d)" % MOST, str(MOST)), ("text(-%d)" % MOST, str(-MOST)), ("text(1) + text(true)", "1true")):
            self.means(text, words(due))
        self.means("'a' + text([])", fault("kind", 6))


class Picks(Case):

    def test_of_words_and_lists(self):
        for text, due in (("'abc'[0]", words("a")), ("'abc'[2]", words("c")), ("[5, 'x'][1]", words("x")), ("[5, 'x'][0]", number(5)),
                          ("[[1, 2]][0][1]", number(2)), ("['ab'][0][1]", words("b")), ("[true][0]", truth(True)), ("[[]][0]", items())):
            self.means(text, due)

    def test_no_such_place(self):
        for text in ("'abc'[3]", "'abc'[-1]", "'abc'[4]", "''[0]", "[][0]", "[1, 2][2]", "[1, 2][-1]", "[1, 2][-2]", "[1][%d]" % MOST):
            self.means(text, fault("index", 0))
        self.means("1 + ('a'[1])", fault("index", 5))
        self.means("'abc'['ab'[0] == 'a' and len('ab')]", fault("kind", 6))

    def test_kinds(self):
        for text in ("5[0]", "true[0]", "'a'[true]", "'a'['a']", "[1][[0]]", "[1]['0']", "''[true]", "[]['a']", "5['a']"):
            self.means(text, fault("kind", 0))
        # The operands are told ahead of the kind.
        self.means("5[1 // 0]", fault("nought", 2))


class Bounds(Case):

    def test_numbers(self):
        most = str(MOST)
        for text, due in ((most, MOST), ("-" + most, -MOST), (most + " + 0", MOST), (most + " - 1 + 1", MOST), ("-" + most + " + 1 - 1", -MOST),
                          ("5 * 1" + "0" * 59, 5 * 10 ** 59), ("-9 * 1" + "0" * 59, -9 * 10 ** 59), ("sum([%s])" % most, MOST)):
            self.means(text, number(due))
        for text, at in ((most + " + 1", 0), ("-" + most + " - 1", 0), ("10 * 1" + "0" * 59, 0), ("-10 * 1" + "0" * 59, 0), ("sum([%s, 1])" % most, 0),
                         ("1 + (%s + 1)" % most, 5), ("sum([-1, -%s])" % most, 0), (most + " * " + most, 0), ("1 - (0 - %s - 1)" % most, 5)):
            self.means(text, fault("great", at))

    def test_words(self):
        world = {"x": answer(words("a" * 200)), "y": answer(words("b")), "z": answer(words("c" * 400))}
        self.means("x + x", words("a" * 400), world)
        self.means("x + x + ''", words("a" * 400), world)
        self.means("z", words("c" * 400), world)
        self.means("x + x + y", fault("great", 0), world)
        self.means("len('' + (z + y))", fault("great", 10), world)
        self.means("text(z)", words("c" * 400), world)
        self.means("(x + x + y)[0]", fault("great", 1), world)

    def test_lists(self):
        hundred = numbers(*range(100))
        world = {"x": answer(hundred), "y": answer(items(items(*hundred[1]))), "z": answer(numbers(*range(200)))}
        self.means("x + x", items(*hundred[1], *hundred[1]), world)
        self.means("x + x + []", items(*hundred[1], *hundred[1]), world)
        self.means("x + x + [1]", fault("great", 0), world)
        # 101 answers: the list in it counts, too.
        self.means("len(y + x)", fault("great", 4), world)
        self.means("len(y + [i for i in x if 0 < i])", number(100), world)
        self.means("[x, x]", fault("great", 0), world)
        self.means("len([x])", number(1), world)
        self.means("[z]", fault("great", 0), world)
        self.means("[i for i in z] == z", truth(True), world)
        self.means("len([[i] for i in x])", number(100), world)
        self.means("len([[i] for i in x + [1]])", fault("great", 4), world)
        self.means("[i for i in z] + [0]", fault("great", 0), world)
        self.means("sum(z)", number(19900), world)

    def test_lists_within_one_another(self):
        self.means("[[[[]]]]", nested(4))
        self.means("[[[[1, 'a'], []]], 3]", items(items(items(items(number(1), words("a")), items())), number(3)))
        self.means("[[[[[]]]]]", fault("great", 0))
        self.means("[1, [[[[]]]]]", fault("great", 0))
        world = {"x": answer(nested(4)), "y": answer(nested(3))}
        self.means("[y]", nested(4), world)
        self.means("[x]", fault("great", 0), world)
        self.means("x + x", items(nested(3), nested(3)), world)
        self.means("[i for i in x]", nested(4), world)
        self.means("[[i] for i in x]", fault("great", 0), world)
        self.means("[y for i in [1]]", nested(4), world)
        self.means("[x for i in [1]]", fault("great", 0), world)
        self.means("[x for i in []]", items(), world)

    def test_looked_at_when_all_are_there(self):
        world = {"z": answer(numbers(*range(150)))}
        self.means("[z, z, 1 // 0]", fault("nought", 7), world)
        self.means("[if i == 1 then 1 // 0 else z for i in [3, 2, 1]]", fault("nought", 16), world)
        self.means("[z for i in [3, 2, 1]]", fault("great", 0), world, steps=8)
        self.means("[[[[[1 // 0]]]]]", fault("nought", 5))

    def test_what_stands_in_a_tree(self):
        self.tree_means(num(MOST, 3), number(MOST))
        self.tree_means(num(MOST + 1, 3), fault("great", 3))
        self.tree_means(num(-MOST - 1, 3), fault("great", 3))
        self.tree_means(("words", 4, "a" * 400), words("a" * 400))
        self.tree_means(("words", 4, "a" * 401), fault("great", 4), many=1)
        self.tree_means(("list", 5, tuple([num(1)] * 200)), numbers(*[1] * 200), many=201)
        self.tree_means(("list", 5, tuple([num(1)] * 201)), fault("great", 5), many=202)


class Several(Case):

    def test_of_several_faults_kind_goes_first(self):
        big = "[%d, %d, 'a']" % (MOST, MOST)
        self.means("sum(" + big + ")", fault("kind", 0))
        self.means("true // 0", fault("kind", 0))
        self.means("'a' rest 0", fault("kind", 0))
        self.means("[] // 0", fault("kind", 0))
        self.means("0 // false", fault("kind", 0))
        self.means("''[false]", fault("kind", 0))
        self.means("%d * 'a'" % MOST, fault("kind", 0))

    def test_the_first_that_arises_ends_all(self):
        self.means("1 // 0 + 'a'[3]", fault("nought", 0), steps=4)
        self.means("[1, x, y]", fault("nobody", 4), steps=3, reads=["x"])
        self.means("let k = 1 // 0 in x", fault("nought", 8), steps=4, reads=[])
        self.means("if 1 // 0 == 1 then x else y", fault("nought", 3), steps=5, reads=[])
        self.means("true and 1 // 0 == 1 or x", fault("nought", 9), reads=[])
        self.means("len([1 // 0])", fault("nought", 5), steps=5)
        self.means("('a' + 1)[x]", fault("kind", 1), steps=4, reads=[])
        self.means("[1 // x for x in [1, 0, 'a']]", fault("nought", 1), steps=11)


class Truths(Case):

    def test_if(self):
        self.means("if true then 1 else 2", number(1), steps=3)
        self.means("if false then 1 else 2", number(2), steps=3)
        self.means("if true then 1 else x", number(1), reads=[])
        self.means("if 1 < 2 then 'a' else 1 // 0", words("a"))
        for ask in ("1", "0", "'true'", "''", "[]", "[true]"):
            self.means("if " + ask + " then 1 else 2", fault("kind", 0), steps=2 if ask != "[true]" else 3)
            self.means("1 + (if " + ask + " then 1 else 2)", fault("kind", 5))

    def test_and_or(self):
        for one in (True, False):
            for other in (True, False):
                pair = (str(one).lower(), str(other).lower())
                self.means("%s and %s" % pair, truth(one and other), steps=3 if one else 2)
                self.means("%s or %s" % pair, truth(one or other), steps=2 if one else 3)
        self.means("false and x", truth(False), reads=[])
        self.means("true or x", truth(True), reads=[])
        self.means("true and x", fault("nobody", 9), reads=["x"])
        self.means("false or x", fault("nobody", 9), reads=["x"])

    def test_of_no_truth(self):
        for text in ("1 and true", "1 and false", "0 or true", "'a' or false", "[] and x", "1 or x"):
            self.means(text, fault("kind", 0), steps=2, reads=[])
        for text in ("true and 1", "true and 'true'", "false or []", "false or 0"):
            self.means(text, fault("kind", 0), steps=3)
        for text in ("false and 1", "true or 1"):
            self.means(text, truth(text == "true or 1"), steps=2)
        self.means("(true and 1) or x", fault("kind", 1), reads=[])
        self.means("false or true and 1", fault("kind", 9))
        self.means("not 0", fault("kind", 0))
        self.means("not []", fault("kind", 0))

    def test_places_of_trees_handed_in(self):
        for kind in ("and", "or"):
            self.tree_means((kind, 5, num(1, 6), ("truth", 7, True)), fault("kind", 5))
            self.tree_means((kind, 5, ("truth", 6, kind == "and"), num(1, 7)), fault("kind", 5))
        self.tree_means(("if", 5, num(1, 6), num(1, 7), num(1, 8)), fault("kind", 5))
        self.tree_means(("not", 5, num(1, 6)), fault("kind", 5))
        self.tree_means(("sign", 5, "+", num(1, 6), ("truth", 7, True)), fault("kind", 5))
        self.tree_means(("pick", 5, ("words", 6, "a"), num(1, 7)), fault("index", 5))


class Lets(Case):

    def test_let(self):
        self.means("let x = 2 in x * x", number(4), steps=5, reads=[])
        self.means("let x = 2 in let y = x + 1 in x * y", number(6))
        self.means("let x = [1, 2] in x[1]", number(2))
        self.means("let x = x in x", fault("nobody", 8), reads=["x"])
        self.means("(let x = 1 in x) + x", fault("nobody", 19), reads=["x"])
        self.means("let x = y in 3", fault("nobody", 8))

    def test_given_again_within(self):
        world = {"x": answer(number(50))}
        self.means("let x = x + 1 in x", number(51), world, reads=["x"])
        self.means("let x = 1 in (let x = 2 in x) + x", number(3), world, reads=[])
        self.means("let x = 1 in let x = x + 1 in x", number(2), world)
        self.means("let x = 1 in [x for x in [x, 5]] + [x]", numbers(1, 5, 1), world)
        self.means("[let x = x * 2 in x for x in [1, 2]]", numbers(2, 4), world)
        self.means("[[x for x in [x, 9]] for x in [1, 2]]", items(numbers(1, 9), numbers(2, 9)), world)
        self.means("[x for x in [1, 2]] + [x]", numbers(1, 2, 50), world)
        self.means("[x for x in [x]]", numbers(50), world, reads=["x"])
        self.means("(let x = 1 in x) + x", number(51), world)


class Each(Case):

    def test_each(self):
        self.means("[x for x in []]", items(), steps=2)
        self.means("[x + 1 for x in [1, 2]]", numbers(2, 3), steps=10)
        self.means("[x for x in [1, 2, 3] if x != 2]", numbers(1, 3), steps=5 + 3 * 3 + 2)
        self.means("[[x, y] for x in [1, 2] if x == y]", fault("nobody", 32))
        self.means("[x for x in [1, 2] if false]", items(), steps=6)
        self.means("['a' for x in ['', []] if x == []]", items(words("a")))

    def test_wants_a_list(self):
        for source in ("1", "'ab'", "true"):
            self.means("[x for x in " + source + "]", fault("kind", 0), steps=2)
            self.means("1 + len([y for x in " + source + " if z])", fault("kind", 8), reads=[])

    def test_wants_truths(self):
        for test in ("1", "x", "''", "[]"):
            self.means("[x for x in [1] if " + test + "]", fault("kind", 0), steps=4)
        self.means("[y for x in [] if 1]", items())
        self.means("[x for x in [true, 3] if x]", fault("kind", 0), steps=7)

    def test_by_turns(self):
        world = {name: answer(number(1)) for name in "abcd"}
        self.means("[a + x for x in [b, c] if d == d]", numbers(2, 2), world, reads=["b", "c", "d", "a"])
        self.means("[1 // x for x in [1, 0, 2] if 1 // (x - 2) < 5]", fault("nought", 1), world)
        self.means("[1 // x for x in [1, 2, 0] if 1 // (x - 2) < 5]", fault("nought", 30), world)


class Names(Case):

    def test_leads(self):
        for told in (number(4), truth(False), words("a"), items()):
            self.means("x", told, {"x": answer(told)}, steps=1, reads=["x"])
        self.means("1 + x", fault("nobody", 4), reads=["x"])
        self.means("1 + x", fault("nobody", 4), {"x": ("nobody",)}, reads=["x"])
        self.means("1 + x", fault("twice", 4), {"x": ("twice",)}, reads=["x"])
        self.means("1 + f", fault("kind", 4), {"f": body(("b", 0), "f(a) = a")}, reads=["f"])
        self.means("1 + x", number(5), {"x": answer(number(4))}, steps=3)

    def test_faults_that_are_answers(self):
        own = ("c", 3)
        for told in (fault("kind", 4, own), fault("nought", 0, own), fault("steps", 0, own), fault("deep", 0, own), fault("source", 0, own),
                     ("fault", "from", ("c", 4)), ("fault", "ring", own), fault("nobody", 2, own), fault("twice", 2, own)):
            world = {"x": answer(told, own), "y": answer(number(1))}
            self.means("1 + x", ("fault", "from", own), world, steps=3, reads=["x"])
            self.means("[y, x, z]", ("fault", "from", own), world, reads=["y", "x"])
            self.means("if true then y else x", number(1), world, reads=["y"])

    def test_each_name_once_as_first_asked(self):
        world = {name: answer(number(1)) for name in "abc"}
        world["f"] = body(("b", 0), "f(x) = x + c + a")
        self.means("b + f(a) + b + f(c)", number(8), world, reads=["b", "f", "a", "c"])
        self.means("a + b + a", number(3), world, reads=["a", "b"])
        told = meaning(CELL, told_as("q + a")[-1], world)
        self.assertEqual(told[2], [("q", ("nobody",))])
        self.assertEqual(meaning(CELL, told_as("a")[-1], world)[2], [("a", ("answer", ("b", 1), number(1)))])
        self.assertEqual(meaning(CELL, told_as("f(1)")[-1], world)[2][0], ("f", world["f"]))

    def test_given_names_are_not_asked(self):
        world = {name: answer(number(9)) for name in "xyz"}
        world["f"] = body(("b", 0), "f(x) = x")
        self.means("let x = 1 in x", number(1), world, reads=[])
        self.means("[y for y in [1]]", numbers(1), world, reads=[])
        self.means("f(4)", number(4), world, reads=["f"])
        self.means("let f = 4 in f", number(4), world, reads=[])


class Calls(Case):

    world = {"f": body(("b", 0), "f(a) = a * 2 + k"), "g": body(("b", 1), "g(a, b, c, d) = [a, b, c, d]"), "k": answer(number(1), ("b", 2)),
             "t": ("twice",), "h": body(("b", 3), "h(x) = if x < 1 then 0 else x + h(x - 1)"), "bad": body(("b", 4), "bad(n) = 1 + n // 0"),
             "r": answer(("fault", "ring", ("b", 5)), ("b", 5)), "p": body(("b", 6), "p(x, y) = x - y"), "own": body(("b", 7), "own(n) = x")}

    def test_calls(self):
        self.means("f(3)", number(7), self.world, steps=7, reads=["f", "k"])
        self.means("f(f(3))", number(15), self.world)
        self.means("g(1, 'a', true, [])", items(number(1), words("a"), truth(True), items()), self.world, steps=10)
        self.means("p(1, 2)", number(-1), self.world)
        self.means("h(4)", number(10), self.world, reads=["h"])
        self.means("[f(x) for x in [1, 2]]", numbers(3, 5), self.world)
        self.means("f(1)[0]", fault("kind", 0), self.world)

    def test_nobody_and_twice(self):
        self.means("1 + q(1)", fault("nobody", 4), self.world, steps=3, reads=["q"])
        self.means("1 + t(1)", fault("twice", 4), self.world, steps=3, reads=["t"])
        self.means("q(1 // 0)", fault("nobody", 0), self.world, steps=1)

    def test_of_a_cell_without_arguments(self):
        self.means("1 + k(1)", fault("kind", 4), self.world, steps=3, reads=["k"])
        self.means("k(1 // 0)", fault("kind", 0), self.world, steps=1, reads=["k"])
        self.means("r(1)", fault("kind", 0), self.world, steps=1, reads=["r"])

    def test_of_a_given_name(self):
        self.means("let f = 1 in f(2)", fault("kind", 13), self.world, steps=3, reads=[])
        self.means("[f(2) for f in [1]]", fault("kind", 1), self.world, reads=[])
        self.means("own(1)", fault("nobody", 9, ("b", 7)), self.world, reads=["own", "x"])
        self.means("h(1)", fault("kind", 7, ("c", 0)), {"h": body(("c", 0), "h(h) = h(1)")}, steps=3, reads=["h"])
        self.means("let q = 1 in q(2)", fault("kind", 13), self.world, reads=[])

    def test_another_number_of_arguments(self):
        for text in ("f(1, 2)", "f(1, 2, 3, 4)", "g(1)", "g(1, 2, 3)", "p(1)", "p(1, 2, 3)", "p(1 // 0)"):
            self.means(text, fault("kind", 0), self.world, steps=1, reads=[text[0]])

    def test_name_then_arguments_then_body(self):
        self.means("p(y, z)", fault("nobody", 2), self.world, reads=["p", "y"])
        self.means("p(k, z)", fault("nobody", 5), self.world, reads=["p", "k", "z"])
        self.means("f(k)", number(3), self.world, reads=["f", "k"])
        self.means("own(k)", fault("nobody", 9, ("b", 7)), self.world, reads=["own", "k", "x"])
        self.means("bad(1 // 0)", fault("nought", 4), self.world)

    def test_faults_in_a_body_are_its_cells(self):
        self.means("1 + bad(3)", fault("nought", 13, ("b", 4)), self.world)
        self.means("f('a')", fault("kind", 7, ("b", 0)), self.world)
        self.means("f(r)", ("fault", "from", ("b", 5)), self.world)
        self.means("[x + bad(x) for x in [f('a'), 3]]", fault("kind", 7, ("b", 0)), self.world)
        self.means("f(1) + 'a'", fault("kind", 0), self.world)

    def test_the_body_sees_the_arguments_alone(self):
        self.means("let x = 5 in own(1)", fault("nobody", 9, ("b", 7)), self.world, reads=["own", "x"])
        self.means("[own(1) for x in [5]]", fault("nobody", 9, ("b", 7)), self.world)
        self.means("let k = 100 in f(3)", number(7), self.world, reads=["f", "k"])
        self.means("let a = 100 in f(3) + a", number(107), self.world)
        self.means("let n = 1 in own(2)", number(8), dict(self.world, x=answer(number(8))))

    def test_a_body_of_the_asking_cell(self):
        world = {"f": body(CELL, "f(a) = a // 0"), "g": body(("b", 0), "g(a) = a + f(a)")}
        self.means("g(1)", fault("nought", 7), world, reads=["g", "f"])
        self.means("1 + f(1)", fault("nought", 7), world)


class Steps(Case):

    def test_the_bound_told(self):
        self.assertEqual(STEPS, 1000)
        tree = told_as("x + (y + 1)")[-1]
        world = {"x": answer(number(1)), "y": answer(number(2))}
        for steps, due, many, reads in (
            (6, number(4), 5, ["x", "y"]), (5, number(4), 5, ["x", "y"]), (4, fault("steps", 9), 4, ["x", "y"]),
            (3, fault("steps", 5), 3, ["x"]), (2, fault("steps", 5), 2, ["x"]), (1, fault("steps", 0), 1, []),
            (0, fault("steps", 0), 0, []),
        ):
            told = self.all_of(tree, world, steps)
            self.assertEqual(told, (due, many, [(name, world[name]) for name in reads]))

    def test_the_thousandth_step(self):
        tree = ("minus", 3, balanced(500))
        self.tree_means(tree, number(-500), many=1000)
        self.tree_means(tree, fault("steps", 0), steps=999, many=999)
        self.tree_means(("minus", 4, tree), fault("steps", 0), many=1000)
        self.tree_means(("minus", 4, tree), number(500), steps=1001, many=1001)
        self.tree_means(("sign", 1, "+", balanced(500), num(1, 99)), fault("steps", 99), many=1000)

    def test_in_a_body(self):
        world = {"f": body(("b", 0), "f(n) = f(n + 1)"), "g": body(("b", 1), "g(n) = sum([g(n - 1) for i in [1, 2, 3] if 0 < n])")}
        self.tree_means(told_as("f(1)")[-1], fault("steps", 7, ("b", 0)), world, steps=6, many=6)
        self.tree_means(told_as("f(1)")[-1], fault("steps", 9, ("b", 0)), world, steps=8, many=8)
        told = self.all_of(told_as("g(9)")[-1], world)
        self.assertEqual(told[1], 1000)
        self.assertEqual(told[0][:3], ("fault", "steps", ("b", 1)))

    def test_each_bound_of_one_tree(self):
        world = {"f": body(("b", 0), "f(a) = let b = a + y in if b < 2 then [b] else [b, y]"), "y": answer(number(5)), "t": ("twice",)}
        tree = told_as("len([f(x)[0] for x in [1, 2, -4] if not (x == y) and (x < 2 or 5 < y)] + [text(-y)])")[-1]
        whole = self.all_of(tree, world)
        self.assertEqual(whole[0], number(3))
        for steps in range(whole[1] + 2):
            due = plain_meaning(CELL, tree, world, steps)
            self.assertEqual(self.all_of(tree, world, steps), due)
            self.assertEqual(due[0][0] == "fault", steps < whole[1])


class Depth(Case):

    def test_ninety_and_ninety_one(self):
        self.tree_means(chain("minus", 89, num(1, 89)), number(-1), many=90)
        self.tree_means(chain("minus", 90, num(1, 90)), fault("deep", 90), many=90)
        self.tree_means(chain("minus", 200, num(1, 200)), fault("deep", 90), many=90)
        self.tree_means(chain("not", 89, ("truth", 89, True)), truth(False), many=90)
        self.tree_means(chain("not", 90, ("truth", 90, True)), fault("deep", 90), many=90)

    def test_in_each_part(self):
        """What stands in an expression is one deeper, whichever part it is."""
        for deep, due in ((88, None), (89, fault("deep", 89))):
            one, yes = chain("minus", deep, num(2, deep)), ("truth", 0, True)
            told = number(2 if deep % 2 == 0 else -2) if due is None else due
            of_list = items(told) if due is None else due
            self.tree_means(("if", 7, yes, one, num(1)), told)
            self.tree_means(("if", 7, ("truth", 0, False), num(1), one), told)
            self.tree_means(("let", 7, "x", num(1), one), told)
            self.tree_means(("let", 7, "x", one, ("name", 1, "x")), told)
            self.tree_means(("list", 7, (one,)), of_list)
            self.tree_means(("each", 7, one, "x", ("list", 8, (num(1),)), None), of_list)
            self.tree_means(("each", 7, one, "x", ("list", 8, (num(1),)), yes), of_list)
            self.tree_means(("sign", 7, "+", num(0), one), told)
            self.tree_means(("own", 7, "sum", ("list", 8, (one,))), fault("deep", 88))
            self.tree_means(("call", 7, "f", (one,)), told, {"f": body(("b", 0), "f(x) = x")})
            self.tree_means(("pick", 7, ("list", 8, (num(4),)), ("sign", 0, "-", one, one)), fault("deep", 88))
            logic = chain("not", deep, ("truth", deep, True))
            truthful = truth(deep % 2 == 0) if due is None else due
            self.tree_means(("and", 7, yes, logic), truthful)
            self.tree_means(("or", 7, ("truth", 0, False), logic), truthful)
            self.tree_means(("each", 7, num(2), "x", ("list", 8, (num(1),)), logic), numbers(2) if due is None else due)
            self.tree_means(("if", 7, logic, num(1), num(1)), number(1) if due is None else due)

    def test_counted_through_calls(self):
        world = {"f": ("body", ("b", 0), ("n",), chain("minus", 40, ("name", 40, "n"))),
                 "g": ("body", ("b", 1), ("n",), ("call", 0, "f", (("name", 1, "n"),)))}
        for ahead, due in ((48, number(3)), (49, fault("deep", 40, ("b", 0)))):
            self.tree_means(chain("minus", ahead, ("call", ahead, "f", (num(3),))), due, world)
        for ahead, due in ((47, number(-3)), (48, fault("deep", 40, ("b", 0)))):
            self.tree_means(chain("minus", ahead, ("call", ahead, "g", (num(3),))), due, world)
        # Behind a call that has ended its depth counts no more.
        self.tree_means(("list", 0, (("call", 0, "f", (num(1),)),) * 5), numbers(*[1] * 5), world)
        down = {"d": body(("b", 0), "d(n) = if n < 1 then 0 else d(n - 1)")}
        # d(43) is 1 deep, its body 2, that of d(42) 4, that of d(0) 88, and n and 1 in its test 90.
        self.means("d(43)", number(0), down)
        self.means("d(44)", fault("deep", 30, ("b", 0)), down)

    def test_a_fault_in_an_argument_is_no_deeper(self):
        world = {"f": body(("b", 0), "f(x) = x")}
        self.tree_means(chain("minus", 88, ("call", 88, "f", (num(5, 89),))), number(5), world)
        self.tree_means(chain("minus", 89, ("call", 89, "f", (num(5, 90),))), fault("deep", 90), world)
        self.tree_means(chain("minus", 89, ("call", 89, "q", (num(5, 90),))), fault("nobody", 89), world)

    def test_steps_and_deep_at_once(self):
        tree = chain("minus", 100, num(1, 100))
        self.tree_means(tree, fault("steps", 90), steps=90, many=90)
        self.tree_means(tree, fault("deep", 90), steps=91, many=90)
        self.tree_means(tree, fault("steps", 89), steps=89, many=89)

    def test_reads_up_to_there(self):
        world = {"x": answer(number(1)), "y": answer(number(2))}
        told = self.all_of(("sign", 0, "+", ("name", 0, "x"), chain("minus", 100, ("name", 1, "y"))), world)
        self.assertEqual(told, (fault("deep", 89), 91, [("x", world["x"])]))

    def test_long_rows_of_one_sign(self):
        world = {"x": answer(number(1)), "t": answer(truth(True)), "l": answer(items(items(items(items()))))}
        for many, due in ((90, number(90)), (91, fault("deep", 0)), (200, fault("deep", 0))):
            self.means("+".join("x" * many), due, world)
        self.means(" and ".join("t" * 60), truth(True), world, steps=119)
        self.means(" or ".join("t" * 60), truth(True), world, steps=60)
        self.means("l" + "[0]" * 12, fault("index", 0), world)
        self.means("-" * 12 + "x", number(1), world)
        self.means("not " * 12 + "t", truth(True), world)
        self.means("-".join("x" * 199), fault("deep", 0), world, steps=90, reads=[])


class Chance(Case):

    def test_trees_by_chance(self):
        chance = random.Random(51)
        words_seen = set()
        for _ in range(1500):
            world = world_by_chance(chance)
            tree = Maker(chance).tree(chance.randint(1, 6))
            steps = chance.choice([1000, 1000, 1000, chance.randint(0, 60)])
            due = plain_meaning(CELL, tree, world, steps)
            told = self.all_of(tree, world, steps)
            self.assertEqual(repr(told), repr(due))
            words_seen.add(due[0][1] if due[0][0] == "fault" else due[0][0])
        self.assertLessEqual({"number", "truth", "words", "list", "kind", "nobody", "twice", "from", "index", "nought", "steps",
                              "great"}, words_seen)


class Told(Case):

    def test_by_the_names_shown(self):
        tree, world = told_as("1 + x")[-1], {"x": answer(number(2))}
        self.assertEqual(meaning(cell=CELL, tree=tree, world=world, steps=3)[0], number(3))
        self.assertEqual(run(cell=CELL, rows=rows_of(tree=tree), world=world, steps=3)[0], number(3))
        with self.assertRaises(TypeError):
            meaning(CELL, tree, world, 3)
        with self.assertRaises(TypeError):
            run(CELL, rows_of(tree), world, 3)

    def test_told_lists_are_new(self):
        tree, world = told_as("1 + x")[-1], {"x": answer(number(2))}
        for tell in (meaning, lambda *rest: run(rest[0], rows_of(tree), rest[2])):
            first = tell(CELL, tree, world)
            first[2].append("x")
            self.assertEqual(tell(CELL, tree, world)[2], [("x", world["x"])])


if __name__ == "__main__":
    unittest.main()
