"""Records and logs (points 2, 25)."""

import copy
import random
import unittest

from leafround.records import check_of, parsed, record

MOST = 10 ** 60 - 1


def check(text):
    """Reckoned all at once: 7 and the signs are the figures of a number to the base 33."""
    whole = 7 * 33 ** len(text) + sum(ord(sign) * 33 ** place for place, sign in enumerate(reversed(text)))
    return whole % 1000003


def written(number, body, *, length=None, checked=None):
    """A record by its parts, each as it may be handed in instead."""
    length = str(len(body)) if length is None else length
    checked = str(check("%s %s:%s" % (number, length, body))) if checked is None else checked
    return "%s %s:%s=%s\n" % (number, length, checked, body)


class Case(unittest.TestCase):

    def parses(self, log, first, records, at=None):
        """at: the whole log where none is told."""
        told = parsed(log)
        self.assertEqual(repr(told), repr((first, records, len(log) if at is None else at)), log)

    def none(self, log):
        self.parses(log, None, [], 0)


class Checks(Case):

    def test_of_short_ones(self):
        for text, due in (("", 7), ("a", 7 * 33 + 97), (" ", 7 * 33 + 32), ("ab", (7 * 33 + 97) * 33 + 98), ("\n", 7 * 33 + 10)):
            self.assertEqual(check_of(text), due)

    def test_of_long_ones(self):
        self.assertEqual(check_of("~" * 3), (((7 * 33 + 126) * 33 + 126) * 33 + 126) % 1000003)
        chance = random.Random(111)
        for many in (4, 5, 60, 400, 5000):
            text = "".join(chr(chance.randint(32, 126)) for _ in range(many))
            self.assertEqual(check_of(text), check(text))
            self.assertTrue(0 <= check_of(text) < 1000003)

    def test_of_any_signs(self):
        for text in ("\u00e9", "\x00", "\U0001f600" * 20, "a\nb"):
            self.assertEqual(check_of(text), check(text))

    def test_by_the_names_shown(self):
        self.assertEqual(check_of(text="a"), 328)
        self.assertEqual(record(number=0, rows=["a"]), "0 1:%d=a\n" % check("0 1:a"))
        self.assertEqual(parsed(log=""), (None, [], 0))


class Records(Case):

    def test_written(self):
        self.assertEqual(record(0, ["a"]), "0 1:%d=a\n" % check("0 1:a"))
        self.assertEqual(record(17, ["a b", " ", "~"]), "17 7:%d=a b\n \n~\n" % check("17 7:a b\n \n~"))
        self.assertEqual(record(MOST, ["x" * 1000]), "%d 1000:%d=%s\n" % (MOST, check("%d 1000:%s" % (MOST, "x" * 1000)), "x" * 1000))

    def test_there_and_back(self):
        chance = random.Random(112)
        for _ in range(200):
            first = chance.choice([0, 1, 9, 99, 10 ** 30, MOST - 6, chance.randint(0, 10 ** 9)])
            records = [["".join(chr(chance.randint(32, 126)) for _ in range(chance.randint(1, 9))) for _ in range(chance.randint(1, 4))]
                       for _ in range(chance.randint(1, 6))]
            before = copy.deepcopy(records)
            log = "".join(record(first + place, rows) for place, rows in enumerate(records))
            self.assertEqual(log, "".join(written(first + place, "\n".join(rows)) for place, rows in enumerate(records)))
            self.parses(log, first, records)
            self.assertEqual(records, before)

    def test_rows_like_records(self):
        rows = [record(3, ["a"])[:-1], "1 1:1=1", "=", ":", " ", "0", "-"]
        log = record(2, rows) + record(3, rows)
        self.parses(log, 2, [rows, rows])

    def test_the_empty_log(self):
        self.none("")

    def test_told_lists_are_new(self):
        log = record(1, ["a"]) + record(2, ["b"])
        first = parsed(log)[1]
        first[0].append("c")
        first.clear()
        self.parses(log, 1, [["a"], ["b"]])


class Numbers(Case):

    def test_of_sixty_and_sixty_one_figures(self):
        self.parses(written(MOST, "a"), MOST, [["a"]])
        self.parses(written(10 ** 59, "a"), 10 ** 59, [["a"]])
        self.none(written(10 ** 60, "a"))
        self.none(written(10 ** 300, "a"))
        self.none(written("9" * 5000, "a"))
        # Behind the greatest number no record can go on.
        log = written(MOST - 1, "a") + written(MOST, "b")
        self.parses(log + written(MOST + 1, "c"), MOST - 1, [["a"], ["b"]], len(log))
        self.parses(log + written(MOST, "c"), MOST - 1, [["a"], ["b"]], len(log))

    def test_figures_alone(self):
        self.parses(written("0", "a"), 0, [["a"]])
        for number in ("00", "01", "007", "", "-1", "-0", "+1", " 1", "1 ", "a", "1a", "1.0", "1_0", "\u0661", "\u00b2", "x1", "0x1"):
            self.none(written(number, "a"))
            log = written(0, "a")
            self.parses(log + written(number, "a"), 0, [["a"]], len(log))
        self.none("x 1:%d=a\n" % check("None 1:a"))

    def test_not_one_more_than_the_one_ahead(self):
        log = written(5, "a") + written(6, "b")
        for number in (5, 6, 8, 4, 0, 70):
            self.parses(log + written(number, "c") + written(number + 1, "d"), 5, [["a"], ["b"]], len(log))
        self.parses(log + written(7, "c"), 5, [["a"], ["b"], ["c"]])
        self.parses(log + written("07", "c"), 5, [["a"], ["b"]], len(log))


class Heads(Case):

    def broken(self, text):
        """A record that isn't whole: alone, and behind and ahead of others."""
        self.none(text)
        ahead, behind = written(4, "one"), written(6, "two")
        self.parses(ahead + text + behind, 4, [["one"]], len(ahead))

    def test_lengths(self):
        body = "ab\nc"
        self.parses(written(5, body), 5, [["ab", "c"]])
        for length in ("3", "5", "04", "", "-4", "+4", "4 ", " 4", "a", "0", "400", "4" + "0" * 59, "4" + "0" * 60, "\u0664", "9" * 5000):
            self.broken(written(5, body, length=length))
            self.broken(written(5, body, length=length, checked=str(check("5 4:" + body))))

    def test_checks(self):
        for body in ("ab\nc", "x" * 70):
            right = check("5 %d:%s" % (len(body), body))
            for checked in (str(right + 1), str(right - 1), "0%d" % right, "", "-%d" % right, str(right + 1000003), "%d " % right, " %d" % right, "a", "0",
                            "%d" % right + "0" * 60, "+%d" % right, str(right)[:-1], str(check(body))):
                self.broken(written(5, body, checked=checked))

    def test_a_check_of_nought(self):
        """A body is looked for whose check is 0: it is written by one figure."""
        for number in range(10 ** 6):
            body = "a%d" % number
            text = "5 %d:%s" % (len(body), body)
            if check_of(text) < 10:
                break
        self.parses(written(5, body), 5, [[body]])
        self.broken(written(5, body, checked="0" + str(check(text))))

    def test_otherwise_written(self):
        body = "a"
        right = check("5 1:a")
        for text in ("5 1:%d=a" % right, "5  1:%d=a\n" % right, "5 1 :%d=a\n" % right, "5 1: %d=a\n" % right, "5 1:%d =a\n" % right, "5\t1:%d=a\n" % right,
                     "5 1;%d=a\n" % right, "5 1:%d:a\n" % right, " 5 1:%d=a\n" % right, "\n5 1:%d=a\n" % right, "5 1:%d=a\r\n" % right, "51:%d=a\n" % right,
                     "5 1:%da\n" % right, "5:1 %d=a\n" % right, "5 1:%d=\na" % right, "1:%d=a\n" % right, "=a\n", "a\n", "\n", " ", "5", "5 ", "5 1:", ":=\n"):
            self.none(text)
            ahead = written(4, "one")
            self.parses(ahead + text, 4, [["one"]], len(ahead))

    def test_rows_that_are_none(self):
        for body in ("", "\n", "a\n", "\na", "a\n\nb", "\n\n"):
            self.broken(written(5, body))
        for sign in ("\t", "\r", "\x7f", "\x00", "\x1f", "\u00e9", "\x85", "\u2028", "\ud800", "\U0001f600"):
            for body in (sign, "a" + sign, sign + "a", "a\n" + sign + "\nb", "ab\nc" + sign):
                self.broken(written(5, body))
        self.parses(written(5, " \n~"), 5, [[" ", "~"]])


class Cut(Case):

    rows = [["a b", "c"], ["1 1:8=x", " "], ["~" * 30], ["x"]]

    def log(self, first):
        return "".join(record(first + place, rows) for place, rows in enumerate(self.rows))

    def ends(self, first):
        ends = [0]
        for place, rows in enumerate(self.rows):
            ends.append(ends[-1] + len(record(first + place, rows)))
        return ends

    def test_cut_at_each_sign(self):
        for first in (0, 8, 98, 10 ** 59):
            log, ends = self.log(first), self.ends(first)
            for at in range(len(log) + 1):
                many = sum(end <= at for end in ends) - 1
                self.parses(log[:at], first if many else None, self.rows[:many], ends[many])

    def test_one_sign_of_a_row_exchanged(self):
        first = 8
        log, ends = self.log(first), self.ends(first)
        for place, rows in enumerate(self.rows):
            body_at = ends[place + 1] - 1 - len("\n".join(rows))
            for at in range(body_at, ends[place + 1] - 1):
                for sign in (chr(number) for number in range(32, 127)):
                    if log[at] not in ("\n", sign):
                        other = log[:at] + sign + log[at + 1:]
                        self.parses(other, first if place else None, self.rows[:place], ends[place])

    def test_any_sign_exchanged(self):
        """In a head, too, nothing is told that wasn't written, but perhaps fewer."""
        log, ends = self.log(8), self.ends(8)
        for at in range(len(log)):
            place = sum(end <= at for end in ends) - 1
            for sign in "019 :=\n~a":
                if sign != log[at]:
                    self.parses(log[:at] + sign + log[at + 1:], 8 if place else None, self.rows[:place], ends[place])

    def test_something_put_behind(self):
        log = self.log(3)
        for behind in ("\n", " ", "7", "7 ", "7 1:", "x", log, record(3, ["a"]), record(8, ["a"]), record(7, ["a"])[:-1], "\u00e9"):
            self.parses(log + behind, 3, self.rows, len(log))
        self.parses(log + record(7, ["a"]) + "x", 3, self.rows + [["a"]], len(log + record(7, ["a"])))

    def test_something_put_ahead(self):
        for ahead in ("\n", " ", "x", "0", "-"):
            self.none(ahead + record(0, ["a"]))
        # A figure ahead makes another number, of which the check isn't.
        self.none("1" + record(0, ["a"]))


if __name__ == "__main__":
    unittest.main()
