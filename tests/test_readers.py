"""Readers: what they complete, the fewest digits they need, and whether they get a range right."""

import random
import unittest

from shortspans import readers
from shortspans.errors import BadBase, BadDigits, BadNumber, BadReader
from shortspans.readers import completed, fewest, is_right
from shortspans.styles import Style
from tests.helper import (BASES, GREAT, NO_BASES, NO_INTEGERS, NO_NUMBERS, NO_RANGES, NO_READERS, Agreeing, nested,
                          refused, refused_range)
from tests.search import READERS, drawn_style, gets_right, seen_ranges, text_of, writes

PLAIN = Style(10, ((), ("changed", 1)))


def searched(reader, base, first, tail):
    """What a reader completes, by a look at the numbers behind first, one by one."""
    one, many = text_of(base, first), len(tail)
    made = one[:len(one) - many] + tail if len(one) > many else tail
    for number in range(first + 1, max(first, base ** many) + base ** many + 1):
        text = text_of(base, number)
        if text == made if reader == "replace" else text.zfill(many)[-many:] == tail:
            return number
    return None


def tails_of(base, most):
    return [text_of(base, base ** many + at)[1:] for many in range(1, most + 1) for at in range(base ** many)]


class Completed(unittest.TestCase):
    def check(self, reader, base, first, tail, told):
        self.assertEqual(completed(reader, base, first, tail), told, (reader, base, first, tail))

    def test_words(self):
        self.assertEqual(readers.READERS, ("replace", "next"))

    def test_document(self):
        for reader, tail, told in (("replace", "7", 1237), ("replace", "1300", 1300), ("replace", "1", None),
                                   ("next", "7", 1237), ("next", "1", 1241), ("next", "0200", 10200)):
            self.check(reader, 10, 1234, tail, told)
        self.assertEqual(completed(reader="next", base=10, first=1234, tail="1"), 1241)
        self.assertEqual(completed("replace", tail="7", first=1234, base=10), 1237)

    def test_against_a_search(self):
        for base, most, longest in ((2, 40, 6), (3, 30, 3), (4, 20, 3), (10, 12, 2)):
            for first in list(range(1, most)) + [base ** 3 - 1, base ** 3, base ** 4 - 1, base ** 4 + 1]:
                for tail in tails_of(base, longest):
                    for reader in READERS:
                        self.check(reader, base, first, tail, searched(reader, base, first, tail))

    def test_drawn_against_a_search(self):
        draw = random.Random(15)
        for base in BASES:
            for times in range(25):
                first = draw.randrange(1, base ** draw.randint(1, 4))
                tail = "".join(draw.choice("0123456789"[:base]) for place in range(draw.randint(1, 3)))
                for reader in READERS:
                    self.check(reader, base, first, tail, searched(reader, base, first, tail))

    def test_shorter(self):
        for reader, tail, told in (
                ("replace", "33", None), ("replace", "34", None), ("replace", "35", 1235), ("replace", "05", None),
                ("replace", "00", None), ("replace", "234", None), ("replace", "235", 1235), ("replace", "000", None),
                ("next", "33", 1333), ("next", "34", 1334), ("next", "35", 1235), ("next", "05", 1305),
                ("next", "00", 1300), ("next", "234", 2234), ("next", "235", 1235), ("next", "000", 2000),
                ("next", "0", 1240)):
            self.check(reader, 10, 1234, tail, told)
        self.check("replace", 10, 1000, "001", 1001)
        self.check("replace", 10, 1000, "000", None)
        self.check("next", 10, 999, "0", 1000)
        self.check("next", 10, 999, "9", 1009)
        self.check("replace", 10, 999, "9", None)

    def test_as_long_or_longer(self):
        for reader, tail, told in (
                ("replace", "1233", None), ("replace", "1234", None), ("replace", "1235", 1235),
                ("replace", "0235", None), ("replace", "0000", None), ("replace", "01235", None),
                ("replace", "10000", 10000), ("replace", "1", None), ("replace", "000000", None),
                ("next", "1233", 11233), ("next", "1234", 11234), ("next", "1235", 1235), ("next", "0235", 10235),
                ("next", "0000", 10000), ("next", "01235", 1235), ("next", "01234", 101234), ("next", "00001", 100001),
                ("next", "10000", 10000), ("next", "000000", 1000000)):
            self.check(reader, 10, 1234, tail, told)
        self.check("replace", 10, 5, "5", None)
        self.check("replace", 10, 5, "6", 6)
        self.check("replace", 10, 5, "0", None)
        self.check("next", 10, 5, "5", 15)
        self.check("next", 10, 5, "0", 10)
        self.check("next", 10, 5, "005", 1005)

    def test_great(self):
        for base in (2, 7, 10):
            for first in (GREAT, GREAT + 12345, base ** 700 - 1, base ** 700):
                text = text_of(base, first)
                for many in (1, 3, 200, 690):
                    head, tail = text[:len(text) - many], text[len(text) - many:]
                    self.check("replace", base, first, tail, None)
                    self.check("next", base, first, tail, first + base ** many)
                    top = str(base - 1) * many
                    made = int(head, base) * base ** many + base ** many - 1
                    self.check("replace", base, first, top, made if made > first else None)
                    self.check("next", base, first, top, made if made > first else made + base ** many)

    def test_longest_tails(self):
        for base in BASES:
            first = base ** 3 + 1
            for reader in READERS:
                self.check(reader, base, first, "1" + "0" * 999, base ** 999)
                self.check(reader, base, base ** 999, "1" + "0" * 998 + "1", base ** 999 + 1)
            self.check("replace", base, first, "0" * 999 + "1", None)
            self.check("next", base, first, "0" * 999 + "1", base ** 1000 + 1)
            self.check("next", base, first, "0" * 1000, base ** 1000)
            self.check("next", base, first, text_of(base, first + 1).zfill(1000), first + 1)
            self.check("next", base, base ** 999, "1" + "0" * 999, base ** 1000 + base ** 999)
            self.check("replace", base, base ** 1200, "0" * 999 + "1", base ** 1200 + 1)
            self.check("next", base, base ** 1200, "0" * 1000, base ** 1200 + base ** 1000)

    def test_refused_what_claims_to_equal_a_reader(self):
        for call, rest in ((completed, (10, 5, "7")), (fewest, (10, 5, 6))):
            with self.assertRaises(BadReader):
                call(Agreeing(), *rest)
        with self.assertRaises(BadReader):
            is_right(PLAIN, Agreeing(), 5, 6)

    def test_refused_in_order(self):
        for reader in NO_READERS:
            for rest in ((10, 5, "7"), (None, None, None), (1, 0, "")):
                refused(self, BadReader, "value", reader, completed, reader, *rest)
        for reader in READERS:
            for base in NO_BASES:
                for rest in ((5, "1"), (None, None), (0, "")):
                    refused(self, BadBase, "value", base, completed, reader, base, *rest)
            for number in NO_NUMBERS:
                for tail in ("1", None, ""):
                    refused(self, BadNumber, "value", number, completed, reader, 2, number, tail)

    def test_refused_tails(self):
        texts = ("", " ", "\n", "7 ", " 7", "7\n", "\n7", "-7", "+7", "7-", "1 2", "1_2", "1,2", "7.0", "a", "7a", "0x7",
                 "/", ":", "\u0667", "\u00b2", "1" * 1001, "0" * 1001, "1" * 20000)
        for reader in READERS:
            for value in texts + NO_INTEGERS + (0, 1, 7, 35, -1, ["7"], ("7",), {"7": 7}, b"7", nested(50)):
                if not isinstance(value, str) or value in texts:
                    refused(self, BadDigits, "value", value, completed, reader, 10, 1234, value)
            for base in BASES:
                for figure in range(base, 10):
                    for text in (str(figure), "1" + str(figure), str(figure) + "0"):
                        refused(self, BadDigits, "value", text, completed, reader, base, 1, text)


class Right(unittest.TestCase):
    def test_known(self):
        for first, second, replace, following in ((5, 6, 1, 1), (1234, 1237, 1, 1), (199, 201, 3, 1), (96, 117, 3, 2),
                                                  (9, 10, 2, 1), (1200, 1300, 3, 2), (1200, 1301, 3, 3)):
            self.assertEqual(fewest("replace", 10, first, second), replace)
            self.assertEqual(fewest("next", 10, first, second), following)
            self.assertEqual(fewest(reader="next", base=10, first=first, second=second), following)
        years = Style(10, ((), ("last", 2)))
        self.assertIs(is_right(years, "replace", 1914, 1918), True)
        self.assertIs(is_right(years, "replace", 1899, 1901), False)
        self.assertIs(is_right(style=years, reader="next", first=1899, second=1901), True)
        self.assertIs(is_right(years, "next", 1, 102), False)

    def test_all_small(self):
        for base, most in ((2, 6), (3, 4)):
            for pair, (one, two, change, gap), found in seen_ranges(base, most):
                for reader in READERS:
                    many = fewest(reader, base, *pair)
                    self.assertEqual(many, found[reader])
                    for kept in range(1, len(two) + 1):
                        right = completed(reader, base, pair[0], two[len(two) - kept:]) == pair[1]
                        self.assertIs(right, kept >= many, (reader, base, pair, kept))
                        self.assertIs(right, gets_right(reader, base, *pair, kept))

    def test_styles_on_all_small(self):
        draw = random.Random(21)
        for base, most in ((2, 6), (3, 4)):
            styles = [drawn_style(draw, base, 3, draw.randint(1, 4)) for times in range(4)]
            styles += [Style(base, ((), ("last", many))) for many in (1, 2, 3)] + [Style(base, ((), ("changed", 1)))]
            for style in styles:
                for pair, seen, found in seen_ranges(base, most):
                    for reader in READERS:
                        told = is_right(style, reader, *pair)
                        self.assertIs(told, completed(reader, base, pair[0], style.tail(*pair)) == pair[1])
                        self.assertIs(told, writes(style.rules, seen)[1] >= found[reader])

    def test_great(self):
        for base in (2, 9, 10):
            for first in (GREAT, base ** 400 - 1):
                for step in (1, 2, base, base + 1, base ** 5, base ** 5 + 1, base ** 300, base ** 999):
                    second = first + step
                    for reader in READERS:
                        many = fewest(reader, base, first, second)
                        self.assertTrue(gets_right(reader, base, first, second, many))
                        self.assertFalse(many > 1 and gets_right(reader, base, first, second, many - 1))
                        for rule in (((), ("last", 5)), ((), ("changed", 1)), ((), ("all",))):
                            style = Style(base, rule)
                            right = completed(reader, base, first, style.tail(first, second)) == second \
                                if style.kept(first, second) <= 1000 else True
                            self.assertIs(is_right(style, reader, first, second), right)

    def test_the_style_stays(self):
        style = Style(10, ((("ends", "00"),), ("all",)), ((), ("last", 1)))
        for times in range(2):
            self.assertIs(is_right(style, "next", 1299, 1301), True)
            self.assertEqual(style.rules, (((("ends", "00"),), ("all",)), ((), ("last", 1))))

    def test_refused_readers(self):
        for reader in NO_READERS:
            for pair in ((1, 2), (2, 1), (None, None)):
                refused(self, BadReader, "value", reader, is_right, PLAIN, reader, *pair)
                for base in (10, 1, None):
                    refused(self, BadReader, "value", reader, fewest, reader, base, *pair)

    def test_refused_bases(self):
        for base in NO_BASES:
            for reader in READERS:
                for pair in ((1, 2), (2, 1), (None, None)):
                    refused(self, BadBase, "value", base, fewest, reader, base, *pair)

    def test_refused_ranges(self):
        for pair in NO_RANGES:
            for reader in READERS:
                refused_range(self, pair, fewest, reader, 10, *pair)
                refused_range(self, pair, is_right, PLAIN, reader, *pair)


class Session(unittest.TestCase):
    def test_example(self):
        one, two = completed("replace", 10, 1234, "7"), completed("replace", 10, 1234, "1")
        told = one, two, completed("next", 10, 1234, "1"), completed("next", 10, 1234, "0200")
        self.assertEqual(told, (1237, None, 1241, 10200))


if __name__ == "__main__":
    unittest.main()
