"""Decisions held against a search through all ranges of few digits."""

import random
import unittest

from shortspans.deciding import (first_range, limit, longer_at, misread, misread_by, never_longer, parting, wasted)
from shortspans.errors import BadNumber, BadReader, OtherBase
from shortspans.styles import Style
from tests.helper import NO_INTEGERS, NO_READERS, refused, told_plainly
from tests.search import READERS, drawn_style, least_found, seen_ranges, writes

ALL = ((), ("all",))
ONE = ((), ("last", 1))
YEARS = Style(10, ((), ("last", 2)))
PAGES = Style(10, ((("ends", "00"),), ("all",)), ((("length", 1, 2),), ("all",)), ((), ("changed", 2)))
# Rules that no range reaches: no first number is so short and ends so, no range changes so few digits and is so wide.
NEVER = (
    (("ends", "01"), ("length", 1, 1)), (("ends", "00"), ("ends", "01")), (("length", 2, 2), ("length", 3, 3)),
    (("changed", 2, 3), ("changed", 1, 1)), (("ends", "0"), ("length", 1, 1)), (("ends", "00"), ("length", 1, 2)),
)


def drawn_styles(seed, times):
    """Pairs of a style and ranges that are enough for it: sizes up to 3 in base 2, up to 1 in base 3."""
    draw = random.Random(seed)
    found = []
    for base, size, share in ((2, 3, 2), (2, 2, 1), (2, 1, 1), (3, 1, 1)):
        for time in range(times * share):
            found.append((drawn_style(draw, base, size, draw.choice((1, 2, 3, 3, 4, 5, 8))),
                          seen_ranges(base, size + 3)))
    return found


class Limit(unittest.TestCase):
    def check(self, told, *rules):
        self.assertEqual(limit(Style(10, *rules)), told)

    def test_keeps(self):
        self.check(1, ALL)
        for word in ("changed", "last"):
            for size in range(1, 7):
                self.check(size, ((), (word, size)))
                self.check(max(size, 3), ((), (word, size)), ((), (word, 3)))

    def test_conditions(self):
        for size in range(1, 7):
            for word in ("length", "changed"):
                self.check(size, (((word, 1, size),), ("all",)), ALL)
                self.check(size, (((word, size, None),), ("all",)), ALL)
                self.check(size, (((word, size, size),), ("all",)), ALL)
                self.check(6, (((word, size, 6),), ("all",)), ALL)
            self.check(size, ((("near", size),), ("all",)), ALL)
        self.check(1, ((("near", 0),), ("all",)), ALL)
        self.check(1, ((("length", 1, None),), ("all",)), ALL)

    def test_ends(self):
        self.check(1, ((("ends", "9"),), ("all",)), ALL)
        self.check(2, ((("ends", "99"),), ("all",)), ALL)
        self.check(2, ((("ends", "00"),), ("all",)), ALL)
        self.check(3, ((("ends", "99"),), ("last", 3)), ALL)

    def test_anywhere(self):
        for place in range(3):
            conditions = [("near", 1)] * 3
            conditions[place] = ("near", 5)
            self.check(5, ALL, (tuple(conditions), ("last", 2)), ALL)
            rules = [ALL] * 8
            rules[place] = (tuple(conditions), ("last", 2))
            self.check(5, *rules)

    def test_several(self):
        one, two, three = Style(10, ((), ("last", 2))), Style(10, ((), ("changed", 4))), Style(10, ALL)
        self.assertEqual(limit(one, two), 4)
        self.assertEqual(limit(two, one), 4)
        self.assertEqual(limit(three, one, three), 2)
        self.assertEqual(limit(three, three), 1)
        self.assertEqual(limit(three, PAGES, three), 2)
        self.assertEqual(limit(one, Style(3, ((), ("last", 5)))), 5)
        self.assertEqual(limit(*[one] * 50, two), 4)


class OneStyle(unittest.TestCase):
    def check_pair(self, told, wanted, style):
        self.assertEqual(told, wanted, style.rules)
        self.assertTrue(told is None or told.__class__ is tuple and len(told) == 2)

    def test_first_range(self):
        for style, ranges in drawn_styles(22, 25):
            for number in range(len(style)):
                found = least_found(ranges, lambda seen, fewest: writes(style.rules, seen)[0] == number)
                self.check_pair(first_range(style, number), found, style)

    def test_misread_and_wasted(self):
        for style, ranges in drawn_styles(30, 40):
            for reader in READERS:
                found = least_found(ranges, lambda seen, fewest: writes(style.rules, seen)[1] < fewest[reader])
                self.check_pair(misread(style, reader), found, style)
                found = least_found(ranges, lambda seen, fewest: writes(style.rules, seen)[1] > fewest[reader])
                self.check_pair(wasted(style, reader), found, style)

    def test_misread_by(self):
        for style, ranges in drawn_styles(31, 25):
            for reader in READERS:
                found = [None] * len(style)
                for pair, seen, fewest in ranges[::-1]:
                    number, kept = writes(style.rules, seen)
                    if kept < fewest[reader]:
                        found[number] = pair
                told = misread_by(style, reader)
                self.assertEqual(told, tuple(found), style.rules)
                self.assertTrue(told_plainly(told) and told.__class__ is tuple)
                least = min([pair[::-1] for pair in found if pair is not None], default=None)
                self.assertEqual(misread(style, reader), least if least is None else least[::-1])

    def test_single_rules(self):
        ranges = seen_ranges(2, 6)
        for size in (1, 2, 3):
            for keep in (("all",), ("changed", size), ("last", size)):
                for condition in (("ends", "0"), ("ends", "10"), ("length", size, None), ("length", 1, size),
                                  ("changed", size, size), ("changed", size, None), ("near", size), ("near", 0)):
                    style = Style(2, ((condition,), keep), ((), ("changed", 1)))
                    for reader in READERS:
                        found = least_found(ranges, lambda seen, fewest: writes(style.rules, seen)[1] < fewest[reader])
                        self.check_pair(misread(style, reader), found, style)
                    found = least_found(ranges, lambda seen, fewest: writes(style.rules, seen)[0] == 0)
                    self.check_pair(first_range(style, 0), found, style)

    def test_known(self):
        self.assertEqual(misread(YEARS, "replace"), (1, 100))
        self.assertEqual(misread(YEARS, "next"), (1, 102))
        self.assertEqual(wasted(YEARS, "next"), (1, 10))
        self.assertEqual(misread(style=YEARS, reader="next"), (1, 102))
        self.assertEqual(wasted(style=YEARS, reader="next"), (1, 10))
        self.assertEqual(misread_by(style=YEARS, reader="next"), ((1, 102),))
        self.assertEqual([first_range(PAGES, number) for number in range(3)], [(100, 101), (1, 2), (101, 102)])
        self.assertEqual(first_range(style=PAGES, number=2), (101, 102))
        self.assertEqual([misread_by(PAGES, reader) for reader in READERS], [(None,) * 3] * 2)
        # Of the ranges with the least second the one with the least first is told, though others lie nearer.
        self.assertEqual(misread(Style(10, ONE), "replace"), (1, 10))
        self.assertEqual(first_range(Style(10, ((("length", 2, 2),), ("all",)), ALL), 0), (10, 11))
        self.assertEqual(misread(Style(10, ((("ends", "9"), ("near", 0)), ("last", 1)), ALL), "replace"), (9, 10))

    def test_nothing(self):
        for base in (2, 3, 10):
            for reader in READERS:
                self.assertIsNone(misread(Style(base, ALL), reader))
                for size in range(1, 7):
                    self.assertIsNone(misread(Style(base, ((), ("changed", size))), reader))
                self.assertEqual(misread_by(Style(base, ALL, ONE, ALL), reader), (None, None, None))
            self.assertIsNone(wasted(Style(base, ((), ("changed", 1))), "replace"))
            self.assertIsNone(wasted(Style(base, ONE), "next"))
            self.assertIsNone(wasted(Style(base, ONE), "replace"))

    def test_never_applying(self):
        for base in (2, 3, 10):
            for conditions in NEVER:
                style = Style(base, (conditions, ("last", 1)), ALL)
                self.assertIsNone(first_range(style, 0), conditions)
                self.assertEqual(first_range(style, 1), (1, 2))
                self.assertEqual(misread_by(style, "next"), (None, None))
            behind = Style(base, ALL, ONE, ((("near", 0),), ("all",)), ALL)
            self.assertEqual([first_range(behind, number) for number in range(4)], [(1, 2), None, None, None])

    def test_equal_calls(self):
        style = Style(3, ((("ends", "02"), ("near", 1)), ("last", 1)), ((("changed", 2, None),), ("last", 2)), ONE)
        rules = style.rules
        for reader in READERS:
            for call in (misread, wasted, misread_by):
                self.assertEqual(call(style, reader), call(Style.of(3, list(rules)), reader))
        self.assertEqual([first_range(style, 1)] * 3, [first_range(style, 1) for time in range(3)])
        self.assertEqual((style.base, style.rules), (3, rules))

    def test_refused(self):
        for reader in NO_READERS:
            for call in (misread, wasted, misread_by):
                refused(self, BadReader, "value", reader, call, PAGES, reader)
        for number in NO_INTEGERS + (-1, -2, -3, -4, 3, 4, 8, 10 ** 1000, -(10 ** 1000)):
            refused(self, BadNumber, "value", number, first_range, PAGES, number)
        for number in (1, 2, -1):
            refused(self, BadNumber, "value", number, first_range, YEARS, number)


class TwoStyles(unittest.TestCase):
    def check(self, one, other, ranges):
        for left, right in ((one, other), (other, one)):
            parted = least_found(ranges, lambda seen, fewest:
                                 writes(left.rules, seen)[1] != writes(right.rules, seen)[1])
            longer = least_found(ranges, lambda seen, fewest:
                                 writes(left.rules, seen)[1] > writes(right.rules, seen)[1])
            self.assertEqual(parting(left, right), parted, (left.rules, right.rules))
            self.assertEqual(longer_at(left, right), longer, (left.rules, right.rules))
            self.assertIs(never_longer(left, right), longer is None)
            self.assertTrue(told_plainly((parting(left, right), longer_at(left, right))))

    def test_drawn(self):
        styles = drawn_styles(32, 24)
        for (one, ranges), (other, others) in zip(styles[::2], styles[1::2]):
            if one.base == other.base:
                self.check(one, other, max(ranges, others, key=len))

    def test_nearly_equal(self):
        for style, ranges in drawn_styles(34, 5):
            others = [style, style.put(len(style) - 1, ALL)]
            if len(style) > 1:
                others.append(style.without(0))
            if len(style) > 2:
                others.append(style.put(0, style[1]).put(1, style[0]))
            for other in others:
                self.check(style, other, ranges)

    def test_sizes_of_one_style_alone(self):
        ranges = seen_ranges(2, 6)
        for size in (1, 2, 3):
            for rule in (((), ("changed", size)), ((), ("last", size))):
                for other in (ALL, ONE, ((), ("changed", 1))):
                    self.check(Style(2, rule), Style(2, other), ranges)
                for condition in (("length", size, None), ("changed", size, None), ("near", size), ("length", 1, size)):
                    self.check(Style(2, ((condition,), ("all",)), rule), Style(2, rule), ranges)

    def test_known(self):
        self.assertEqual(parting(YEARS, Style(10, ((), ("last", 3)))), (1, 100))
        self.assertIsNone(longer_at(YEARS, Style(10, ((), ("last", 3)))))
        self.assertEqual(longer_at(Style(10, ((), ("last", 3))), YEARS), (1, 100))
        self.assertEqual(parting(one=PAGES, other=YEARS), (1, 100))
        self.assertEqual(longer_at(one=PAGES, other=YEARS), (1, 100))
        self.assertIs(never_longer(one=YEARS, other=PAGES), True)
        self.assertIs(never_longer(PAGES, YEARS), False)
        self.assertIsNone(parting(PAGES, PAGES.without(1)))
        self.assertEqual(parting(PAGES, PAGES.without(0)), (100, 101))

    def test_itself(self):
        for style in (PAGES, YEARS, Style(2, ONE), Style(3, *[((("near", 6),), ("last", 6))] * 7, ALL)):
            self.assertIsNone(parting(style, style))
            self.assertIsNone(longer_at(style, Style.of(style.base, style.rules)))
            self.assertIs(never_longer(style, style), True)

    def test_other_bases(self):
        for one, other in ((PAGES, Style(9, ALL)), (Style(2, ALL), Style(3, ALL)), (Style(9, ALL), Style(10, ALL))):
            for call in (parting, longer_at, never_longer):
                for left, right in ((one, other), (other, one)):
                    with self.assertRaises(OtherBase) as caught:
                        call(left, right)
                    self.assertIs(caught.exception.__class__, OtherBase)

    def test_the_styles_stay(self):
        rules = PAGES.rules
        for call in (parting, longer_at, never_longer):
            self.assertEqual(call(PAGES, YEARS), call(PAGES, YEARS))
        self.assertEqual((PAGES.base, PAGES.rules, YEARS.rules), (10, rules, (((), ("last", 2)),)))


if __name__ == "__main__":
    unittest.main()
