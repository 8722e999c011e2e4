"""Decisions in base 10 with all sizes at 6 and eight rules: how long they take, and whether their answers are so."""

import random
import time
import unittest

from shortspans.deciding import (first_range, lean, longer_at, mended, misread, misread_by, needless, never_longer,
                                 parting, wasted)
from shortspans.styles import Style
from tests.search import READERS, drawn_range, drawn_style, expected, is_misread, is_wasted

ALL = ((), ("all",))
# Within seconds, on a machine that does other things too.
SECONDS = 20
ENDINGS = ("00", "05", "50", "99", "12", "01", "9")
WIDE = Style(10, *[((("ends", ending), ("length", 6, None), ("near", 6)), ("last", 6)) for ending in ENDINGS],
             ((), ("changed", 6)))
LAST = Style(10, *[((("ends", ending), ("changed", 6, 6)), ("last", 6)) for ending in ENDINGS], ((), ("last", 6)))
KEEPING = Style(10, *[((("ends", ending), ("changed", 6, None), ("length", 1, 6)), ("all",)) for ending in ENDINGS],
                ((), ("changed", 6)))
WHOLE = Style(10, *[((("ends", ending), ("length", 6, 6), ("near", 6)), ("all",)) for ending in ENDINGS], ALL)
EXACT = Style(10, *[((("ends", ending), ("changed", 6, None)), ("changed", 1)) for ending in ENDINGS],
              ((), ("changed", 1)))
LONG = (WIDE, LAST, KEEPING, WHOLE, EXACT)


def drawn_long(draw):
    """A style with eight rules, two digits in the "ends" of the first one, and sizes up to 6."""
    ending = str(draw.randrange(100)).zfill(2)
    first = (("ends", ending), ("changed", draw.randint(1, 6), 6), ("near", 6)), ("last", draw.randint(1, 6))
    return first + drawn_style(draw, 10, 6, 7)


def many_drawn(draw, least):
    """Ranges of up to 12 digits, hundred-digit ones, and ones about as great as a least one."""
    found = [drawn_range(draw, 10, draw.choice((3, 6, 9, 12))) for times in range(150)]
    found += [drawn_range(draw, 10, 100) for times in range(10)]
    if least is not None:
        first, second = least
        near = [(first + by, second) for by in range(-3, 0)] + [(first + by, second - 1) for by in range(-3, 12)]
        near += [(second - 1 - by, second - 1) for by in (1, 9, 10, 11, 99, 100, 101)]
        near += [drawn_range(draw, 10, len(str(second))) for times in range(150)]
        near += [(1 + draw.randrange(second), 1 + draw.randrange(second)) for times in range(150)]
        found += [pair for pair in near if 0 < pair[0] < pair[1]]
    return found


class Answers(unittest.TestCase):
    def timed(self, call, *args):
        begun = time.monotonic()
        told = call(*args)
        self.assertLess(time.monotonic() - begun, SECONDS)
        return told

    def check(self, draw, told, asked, where):
        """It is asked of the range told, and of no lesser one of many; if none is told, of none of many."""
        if told is not None:
            self.assertTrue(asked(*told), (told, where))
        for first, second in many_drawn(draw, told):
            if told is None or (second, first) < told[::-1]:
                self.assertFalse(asked(first, second), (told, first, second, where))

    def check_style(self, draw, style):
        rules = style.rules
        for reader in READERS:
            told = self.timed(misread, style, reader)
            self.check(draw, told, lambda *pair: is_misread(style, reader, *pair), rules)
            told = self.timed(wasted, style, reader)
            self.check(draw, told, lambda *pair: is_wasted(style, reader, *pair), rules)
            for number, told in enumerate(self.timed(misread_by, style, reader)):
                self.check(draw, told, lambda *pair: is_misread(style, reader, *pair)
                           and expected(style, *pair)[0] == number, (rules, number))
        for number in range(len(style)):
            told = self.timed(first_range, style, number)
            self.check(draw, told, lambda *pair: expected(style, *pair)[0] == number, (rules, number))
        self.assertEqual(style.rules, rules)

    def check_pair(self, draw, one, other):
        where = one.rules, other.rules
        told = self.timed(parting, one, other)
        self.check(draw, told, lambda *pair: expected(one, *pair)[2] != expected(other, *pair)[2], where)
        told = self.timed(longer_at, one, other)
        self.check(draw, told, lambda *pair: expected(one, *pair)[1] > expected(other, *pair)[1], where)
        self.assertIs(self.timed(never_longer, one, other), told is None)

    def test_one_style(self):
        draw = random.Random(41)
        for style in LONG:
            self.check_style(draw, style)

    def test_drawn_styles(self):
        draw = random.Random(42)
        for times in range(5):
            self.check_style(draw, drawn_long(draw))

    def test_two_styles(self):
        draw = random.Random(43)
        for one in LONG:
            for other in LONG:
                self.check_pair(draw, one, other)
        for times in range(5):
            self.check_pair(draw, drawn_long(draw), drawn_long(draw))
            style = drawn_long(draw)
            self.check_pair(draw, style, style.put(6, style[5]))

    def test_known(self):
        self.assertEqual([misread(WIDE, reader) for reader in READERS], [(100000, 1000000), None])
        self.assertEqual([misread(KEEPING, reader) for reader in READERS], [None, None])
        self.assertEqual([misread(LAST, reader) for reader in READERS], [(1, 1000000), (1, 1000002)])
        self.assertEqual(misread_by(LAST, "replace"), (None,) * 7 + ((1, 1000000),))
        self.assertEqual([misread(WHOLE, reader) for reader in READERS], [None, None])
        self.assertIsNone(wasted(EXACT, "replace"))
        self.assertEqual(wasted(EXACT, "next"), (1, 10))
        self.assertEqual(first_range(WIDE, 0), (100000, 100001))
        self.assertEqual(first_range(WIDE, 6), (100009, 100010))
        self.assertEqual(first_range(KEEPING, 0), (100, 100000))
        self.assertEqual(first_range(KEEPING, 4), (12, 100000))
        self.assertIsNone(parting(EXACT, Style(10, ((), ("changed", 1)))))
        self.assertIsNone(longer_at(EXACT, KEEPING))
        self.assertEqual(longer_at(EXACT, WIDE), (100000, 1000000))
        self.assertEqual(longer_at(WHOLE, EXACT), (10, 11))

    def test_rules(self):
        draw = random.Random(44)
        for style in LONG[:3] + (drawn_long(draw), drawn_long(draw)):
            told = self.timed(needless, style)
            for number in range(7):
                self.assertIs(parting(style, style.without(number)) is None, number in told)
            for reader in READERS:
                made = self.timed(mended, style, reader)
                self.assertIsNone(misread(made, reader))
                for (conditions, keep), was, least in zip(made.rules, style.rules, misread_by(style, reader)):
                    self.assertEqual((conditions, keep), was if least is None else (was[0], ("changed", was[1][1])))
            six = style.without(6).without(5)
            short = self.timed(lean, six)
            self.assertIsNone(parting(short, six))
            self.assertEqual(needless(short), ())
            self.assertLessEqual(len(short), 6 - (len(needless(six)) > 0))


if __name__ == "__main__":
    unittest.main()
