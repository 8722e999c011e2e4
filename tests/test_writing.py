"""What a style writes: the rule, how many digits are kept, the tail and the form."""

import unittest

from shortspans.styles import Style
from tests.helper import BASES, GREAT, NO_RANGES, refused_range
from tests.search import expected, text_of

ALL = ((), ("all",))
PAGES = Style(10, ((("ends", "00"),), ("all",)), ((("length", 1, 2),), ("all",)), ((), ("changed", 2)))
YEARS = Style(10, ((), ("last", 2)))
MIXED = (
    ((("ends", "01"), ("changed", 1, 2)), ("changed", 3)), ((("length", 2, 3), ("near", 2)), ("last", 2)),
    ((("changed", 3, None), ("ends", "1")), ("all",)), ((("near", 1),), ("changed", 1)), ((), ("last", 4)),
)
LONG = (((("near", 3), ("ends", "1")), ("changed", 4)), ((("changed", 6, None),), ("all",)), ALL)


class Writing(unittest.TestCase):
    def check(self, style, first, second):
        told = (style.rule_of(first, second), style.kept(first, second), style.tail(first, second),
                style(first, second))
        self.assertEqual(told, expected(style, first, second), (style.rules, first, second))

    def check_forms(self, style, rows):
        for first, second, number, form in rows:
            self.assertEqual(style(first, second), form)
            self.assertEqual(style(first=first, second=second), form)
            self.assertEqual(style.rule_of(first, second), number)
            tail = form.split("-")[1]
            self.assertEqual(style.tail(first, second), tail)
            self.assertEqual(style.kept(first, second), len(tail))
            self.check(style, first, second)

    def test_pages(self):
        self.check_forms(PAGES, (
            (1100, 1103, 0, "1100-1103"), (96, 117, 1, "96-117"), (1234, 1237, 2, "1234-37"), (199, 201, 2, "199-201"),
            (100, 101, 0, "100-101"), (5, 6, 1, "5-6"), (99, 100, 1, "99-100"), (999, 1000, 2, "999-1000"),
            (101, 110, 2, "101-10"), (1201, 1202, 2, "1201-02"), (1234, 1334, 2, "1234-334"),
        ))

    def test_years(self):
        self.check_forms(YEARS, (
            (1, 2, 0, "1-2"), (1, 100, 0, "1-00"), (1914, 1918, 0, "1914-18"), (9, 10, 0, "9-10"),
            (1899, 1901, 0, "1899-01"), (9, 1000001, 0, "9-01"),
        ))

    def test_by_name(self):
        for call, told in ((PAGES.rule_of, 2), (PAGES.kept, 2), (PAGES.tail, "37"), (PAGES, "1234-37")):
            self.assertEqual(call(first=1234, second=1237), told)
            self.assertEqual(call(second=1237, first=1234), told)
            self.assertEqual(call(1234, second=1237), told)

    def test_ends(self):
        style = Style(10, ((("ends", "05"),), ("last", 1)), ((("ends", "5"),), ("last", 2)), ALL)
        self.check_forms(style, (
            (5, 1234, 1, "5-34"), (105, 1234, 0, "105-4"), (15, 1234, 1, "15-34"), (50, 1234, 2, "50-1234"),
            (1005, 1006, 0, "1005-6"), (1050, 1051, 2, "1050-1051"), (1, 2, 2, "1-2"),
        ))
        zero = Style(10, ((("ends", "0"),), ("last", 1)), ALL)
        self.check_forms(zero, ((1, 10, 1, "1-10"), (10, 20, 0, "10-0"), (100, 205, 0, "100-5")))

    def test_length(self):
        style = Style(10, ((("length", 2, 3),), ("last", 1)), ((("length", 5, None),), ("last", 2)), ALL)
        self.check_forms(style, (
            (9, 100, 2, "9-100"), (10, 11, 0, "10-1"), (999, 12345, 0, "999-5"), (1000, 12345, 2, "1000-12345"),
            (9999, 10000, 2, "9999-10000"), (10000, 10001, 1, "10000-01"),
            (GREAT, GREAT + 1, 1, text_of(10, GREAT) + "-01"),
        ))

    def test_changed(self):
        style = Style(10, ((("changed", 2, 2),), ("last", 6)), ((("changed", 4, None),), ("last", 1)), ALL)
        self.check_forms(style, (
            (123, 124, 2, "123-124"), (123, 134, 0, "123-134"), (123, 200, 2, "123-200"), (1234, 2234, 1, "1234-4"),
            (9, 10, 0, "9-10"), (999, 1000, 1, "999-0"), (12345678, 12345690, 0, "12345678-345690"),
        ))

    def test_near(self):
        style = Style(10, ((("near", 0),), ("last", 1)), ((("near", 2),), ("last", 3)), ALL)
        self.check_forms(style, (
            (99, 100, 0, "99-0"), (99, 101, 1, "99-101"), (1234, 1334, 1, "1234-334"), (1234, 1335, 2, "1234-1335"),
            (GREAT, GREAT + 100, 1, text_of(10, GREAT) + "-100"),
        ))

    def test_keep_changed(self):
        for least in range(1, 7):
            style = Style(10, ((), ("changed", least)))
            for first, second, change in ((1, 2, 1), (12, 13, 1), (199, 201, 3), (9, 12345, 5),
                                          (123456789, 123456790, 2), (10000000, 20000000, 8)):
                kept = min(max(change, least), len(str(second)))
                self.assertEqual(style.kept(first, second), kept)
                self.assertEqual(style.tail(first, second), str(second)[-kept:])

    def test_all_conditions_hold(self):
        style = Style(10, ((("ends", "9"), ("length", 2, 2), ("near", 0)), ("last", 1)), ALL)
        self.check_forms(style, (
            (19, 20, 0, "19-0"), (18, 19, 1, "18-19"), (109, 110, 1, "109-110"), (19, 21, 1, "19-21"),
        ))

    def test_first_rule_of_several(self):
        style = Style(10, ((("near", 0),), ("last", 1)), ((("near", 1),), ("last", 2)), ALL, ALL)
        self.assertEqual([style.rule_of(500, 500 + step) for step in (1, 2, 10, 11, 400)], [0, 1, 1, 2, 2])

    def test_against_the_texts(self):
        for base in BASES:
            style = Style(base, *MIXED)
            for first in list(range(1, 30)) + [base ** 4 - 1, base ** 4 + 1, base ** 5]:
                for step in (1, 2, base, base + 1, base ** 2, base ** 2 + 1, base ** 3 + 7, 5 * base ** 5):
                    self.check(style, first, first + step)

    def test_great(self):
        for base in (2, 7, 10):
            style = Style(base, *LONG)
            for first in (GREAT, GREAT + 1, base ** 900 - 1, base ** 900 + 1):
                for step in (1, base ** 3, base ** 3 + 1, base ** 500):
                    self.check(style, first, first + step)


class Refused(unittest.TestCase):
    def test_no_ranges(self):
        for style in (PAGES, YEARS):
            for call in (style.rule_of, style.kept, style.tail, style):
                for pair in NO_RANGES:
                    refused_range(self, pair, call, *pair)


class Session(unittest.TestCase):
    def test_example(self):
        told = ([PAGES(1100, 1103), PAGES(96, 117), PAGES(1234, 1237), PAGES(199, 201)], PAGES.rule_of(1234, 1237),
                len(PAGES))
        self.assertEqual(told, (["1100-1103", "96-117", "1234-37", "199-201"], 2, 3))


if __name__ == "__main__":
    unittest.main()
