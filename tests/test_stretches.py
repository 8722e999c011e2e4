"""Stretches and their total, held against a walk through the second numbers, and asked of great numbers."""

import random
import time
import unittest

from shortspans.errors import BadNumber
from shortspans.stretches import stretches, total
from shortspans.styles import Style
from tests.helper import BASES, NO_NUMBERS, refused, told_plainly
from tests.search import drawn_style, expected

ALL = ((), ("all",))
PAGES = Style(10, ((("ends", "00"),), ("all",)), ((("length", 1, 2),), ("all",)), ((), ("changed", 2)))
MIXED = (
    ((("near", 0),), ("last", 6)), ((("ends", "1"), ("changed", 2, 4)), ("last", 2)), ((("near", 3),), ("changed", 2)),
    ((("changed", 3, 5),), ("last", 4)), ((("length", 2, 3),), ("changed", 1)), ALL,
)
SECONDS = 20


def walked(style, first, most):
    """The stretches and the total, by a walk through the second numbers."""
    found, added = [], 0
    for second in range(first + 1, most + 1):
        number, kept = expected(style, first, second)[:2]
        added += kept
        if found and found[-1][1:] == (number, kept):
            found.pop()
        found.append((second, number, kept))
    return tuple(found), added


class Small(unittest.TestCase):
    def check(self, style, first, most):
        told = stretches(style, first, most)
        self.assertEqual((told, total(style, first, most)), walked(style, first, most), (style.rules, first, most))
        self.assertTrue(told_plainly(told) and told.__class__ is tuple)

    def test_document(self):
        self.assertEqual(stretches(PAGES, 1195, 2100), ((1199, 2, 2), (1999, 2, 3), (2100, 2, 4)))
        self.assertEqual(total(PAGES, 1195, 2100), 2812)
        self.assertEqual(stretches(style=PAGES, first=1195, most=2100), stretches(PAGES, 1195, 2100))
        self.assertEqual(total(style=PAGES, first=1195, most=2100), 2812)

    def test_known(self):
        self.assertEqual(stretches(PAGES, 5, 6), ((6, 1, 1),))
        self.assertEqual(stretches(PAGES, 5, 1000), ((9, 1, 1), (99, 1, 2), (999, 1, 3), (1000, 1, 4)))
        self.assertEqual(total(PAGES, 5, 1000), 4 + 2 * 90 + 3 * 900 + 4)
        self.assertEqual(stretches(Style(10, ALL), 100, 999), ((999, 0, 3),))
        self.assertEqual(stretches(Style(10, ((), ("last", 1))), 1, 10 ** 100), ((10 ** 100, 0, 1),))
        self.assertEqual(total(Style(10, ((), ("last", 1))), 1, 10 ** 100), 10 ** 100 - 1)
        near = Style(10, ((("near", 0),), ("last", 1)), ((("near", 1),), ("last", 2)), ALL)
        self.assertEqual(stretches(near, 500, 600), ((501, 0, 1), (510, 1, 2), (600, 2, 3)))
        # Rules that keep as many digits are told apart.
        twins = Style(10, ((("near", 1),), ("last", 2)), ((), ("last", 2)))
        self.assertEqual(stretches(twins, 500, 600), ((510, 0, 2), (600, 1, 2)))

    def test_first_numbers_of_one_to_four_digits(self):
        draw = random.Random(51)
        for base in (2, 3, 10):
            styles = [Style(base, *MIXED)] + [drawn_style(draw, base, 4, 4) for times in range(3)]
            for length in (1, 2, 3, 4):
                least, beyond = base ** (length - 1), base ** length
                for first in {least, beyond - 1, beyond // 2, draw.randrange(least, beyond)}:
                    if first > 0:
                        for style in styles:
                            self.check(style, first, first + 350)

    def test_every_most(self):
        for base, firsts in ((2, (1, 6, 15)), (10, (7, 95, 991, 9999))):
            style = Style(base, *MIXED)
            for first in firsts:
                for most in range(first + 1, first + 40):
                    self.check(style, first, most)

    def test_first_plus_one(self):
        for base in BASES:
            style = Style(base, *MIXED)
            for first in list(range(1, 30)) + [base ** 5 - 1, base ** 80]:
                number, kept = expected(style, first, first + 1)[:2]
                self.assertEqual(stretches(style, first, first + 1), ((first + 1, number, kept),))
                self.assertEqual(total(style, first, first + 1), kept)

    def test_parted(self):
        draw = random.Random(52)
        for base in (2, 7, 10):
            style = drawn_style(draw, base, 4, 5)
            for times in range(12):
                first = draw.randrange(1, base ** 4)
                most = first + draw.randint(2, 150)
                between = draw.randrange(first + 1, most)
                behind = sum(expected(style, first, second)[1] for second in range(between + 1, most + 1))
                self.assertEqual(total(style, first, most), total(style, first, between) + behind)


class Great(unittest.TestCase):
    def check(self, draw, style, first, most):
        begun = time.monotonic()
        told, added = stretches(style, first, most), total(style, first, most)
        self.assertLess(time.monotonic() - begun, SECONDS)
        self.assertEqual(told[-1][0], most)
        ahead, counted = first, 0
        for last, number, kept in told:
            self.assertLess(ahead, last)
            for second in {ahead + 1, last, draw.randint(ahead + 1, last)}:
                self.assertEqual((style.rule_of(first, second), style.kept(first, second)), (number, kept))
            counted += kept * (last - ahead)
            ahead = last
        self.assertEqual(added, counted)
        for one, other in zip(told, told[1:]):
            self.assertNotEqual(one[1:], other[1:])
        self.assertTrue(told_plainly(told))

    def pairs(self, draw, base):
        great = 10 ** 100 - 1
        power = base ** 90 if base == 10 else base ** 200
        firsts = (1, power, power - 1, draw.randrange(1, 10 ** 99), 10 ** 99)
        return [(first, most) for first in firsts for most in (first + base ** 5, draw.randrange(first + 1, great), great)]

    def test_all(self):
        draw = random.Random(53)
        for base in (2, 3, 10):
            for style in (Style(base, *MIXED), Style(base, ((), ("changed", 1))), drawn_style(draw, base, 6, 8)):
                for first, most in self.pairs(draw, base):
                    self.check(draw, style, first, most)

    def test_parted(self):
        draw = random.Random(54)
        for base in (2, 10):
            style = Style(base, *MIXED)
            for times in range(4):
                first = draw.randrange(1, 10 ** 60)
                most = draw.randrange(first + 10, 10 ** 100)
                between = draw.randrange(first + 1, most)
                rest, ahead = 0, between
                for last, number, kept in stretches(style, first, most):
                    if last > between:
                        rest += kept * (last - ahead)
                        ahead = last
                self.assertEqual(total(style, first, most), total(style, first, between) + rest)
                shorter = stretches(style, first, between)
                self.assertEqual(shorter[:-1], stretches(style, first, most)[:len(shorter) - 1])

    def test_known(self):
        style = Style(10, ((), ("changed", 1)))
        told = stretches(style, 10 ** 99, 10 ** 100 - 1)
        self.assertEqual(told, tuple((10 ** 99 + 10 ** many - 1 if many < 100 else 10 ** 100 - 1, 0, many)
                                     for many in range(1, 101)))


class Refused(unittest.TestCase):
    def test_first(self):
        for call in (stretches, total):
            for value in NO_NUMBERS:
                for most in (5, 0, None, value):
                    refused(self, BadNumber, "value", value, call, PAGES, value, most)

    def test_most(self):
        for call in (stretches, total):
            for value in NO_NUMBERS:
                refused(self, BadNumber, "value", value, call, PAGES, 1, value)
            for first, most in ((5, 5), (5, 4), (5, 1), (10 ** 99, 10 ** 99), (10 ** 99, 3)):
                refused(self, BadNumber, "value", most, call, PAGES, first, most)
                refused(self, BadNumber, "value", most, call, style=PAGES, first=first, most=most)


class Session(unittest.TestCase):
    def test_example(self):
        told = stretches(PAGES, 1195, 2100), total(PAGES, 1195, 2100)
        self.assertEqual(told, (((1199, 2, 2), (1999, 2, 3), (2100, 2, 4)), 2812))

    def test_the_style_stays(self):
        style = Style(3, *MIXED)
        for call in (stretches, total):
            self.assertEqual(call(style, 20, 300), call(Style(3, *MIXED), 20, 300))
            self.assertEqual(call(style, 20, 300), call(style, 20, 300))
        self.assertEqual((style.base, style.rules), (3, MIXED))


if __name__ == "__main__":
    unittest.main()
