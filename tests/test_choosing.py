"""Which rules are needless, which are enough, and which are mended."""

import itertools
import random
import unittest

from shortspans.deciding import lean, mended, misread, misread_by, needless, parting, wasted
from shortspans.errors import BadReader, TooMany
from shortspans.styles import Style
from tests.helper import NO_READERS, refused, told_plainly
from tests.search import READERS, drawn_style, holds, least_found, many_of, seen_ranges, writes

ALL = ((), ("all",))
ONE = ((), ("last", 1))
TWO = ((), ("changed", 2))
PAGES = Style(10, ((("ends", "00"),), ("all",)), ((("length", 1, 2),), ("all",)), ((), ("changed", 2)))
YEARS = Style(10, ((), ("last", 2)))
TWIN = ((("near", 1), ("ends", "5")), ("last", 1))


def drawn_styles(seed, times, most):
    """Styles with sizes up to 3 in base 2 and up to 1 in base 3, and ranges that are enough for them."""
    draw = random.Random(seed)
    return [(drawn_style(draw, base, size, draw.randint(1, most)), seen_ranges(base, size + 3))
            for base, size in ((2, 3), (2, 2), (2, 1), (3, 1)) for time in range(times)]


def seen_rows(style, ranges):
    """All that ranges have of this: how many digits each rule keeps, or None where it does not apply."""
    return {tuple(many_of(keep, two, change) if all(holds(each, one, change, gap) for each in conditions) else None
                  for conditions, keep in style.rules)
            for pair, (one, two, change, gap), fewest in ranges}


def write_all_the_same(rows, numbers):
    return all(next(row[at] for at in numbers if row[at] is not None) == next(each for each in row if each is not None)
               for row in rows)


def needless_found(style, ranges):
    rows = seen_rows(style, ranges)
    numbers = range(len(style))
    return tuple(number for number in numbers[:-1] if write_all_the_same(rows, [at for at in numbers if at != number]))


def lean_found(style, ranges):
    """The rules of the lean form, out of all choices of rules."""
    rows = seen_rows(style, ranges)
    last = len(style) - 1
    chosen = [(*some, last) for many in range(last + 1) for some in itertools.combinations(range(last), many)]
    fit = [numbers for numbers in chosen if write_all_the_same(rows, numbers)]
    return tuple(style.rules[number] for number in min(fit, key=lambda numbers: (len(numbers), numbers)))


class Needless(unittest.TestCase):
    def test_against_a_search(self):
        some = 0
        for style, ranges in drawn_styles(34, 30, 8):
            told = needless(style)
            self.assertEqual(told, needless_found(style, ranges), style.rules)
            self.assertTrue(told_plainly(told) and told.__class__ is tuple)
            some += len(told)
            for number in range(len(style) - 1):
                self.assertIs(parting(style, style.without(number)) is None, number in told)
        self.assertGreater(some, 100)

    def test_known(self):
        self.assertEqual(needless(PAGES), (1,))
        self.assertEqual(needless(style=YEARS), ())
        self.assertEqual(needless(Style(10, ONE, ALL)), ())
        self.assertEqual(needless(Style(10, ALL, ONE, ALL)), (1,))
        self.assertEqual(needless(Style(10, ALL, ALL)), (0,))
        self.assertEqual(needless(Style(10, ((("ends", "00"),), ("last", 1)), ONE)), (0,))
        self.assertEqual(needless(Style(10, ((("length", 1, 2),), ("changed", 2)), TWO)), (0,))
        self.assertEqual(needless(Style(10, ((("length", 1, 3),), ("changed", 3)), TWO)), ())

    def test_twice(self):
        self.assertEqual(needless(Style(10, TWIN, TWIN, ALL)), (0, 1))
        self.assertEqual(needless(Style(10, TWIN, ALL, TWIN, ALL)), (1, 2))
        self.assertEqual(needless(Style(10, TWIN, ONE, TWIN, ALL)), (0, 2))

    def test_seven_and_eight(self):
        rules = [((("length", size, size),), ("last", size)) for size in (1, 2, 3, 4, 5, 6)]
        self.assertEqual(needless(Style(10, *rules, ALL)), ())
        self.assertEqual(needless(Style(10, *rules, rules[3], ALL)), (3, 6))
        self.assertEqual(needless(Style(10, *[ONE] * 7, ALL)), (0, 1, 2, 3, 4, 5, 6))

    def test_the_style_stays(self):
        rules = PAGES.rules
        self.assertEqual(needless(PAGES), needless(Style.of(10, rules)))
        self.assertEqual(PAGES.rules, rules)


class Lean(unittest.TestCase):
    def check(self, told, style):
        made = lean(style)
        self.assertIs(made.__class__, Style)
        self.assertEqual((made.base, made.rules), (style.base, told), style.rules)
        self.assertTrue(told_plainly(made.rules))

    def test_against_all_choices(self):
        fewer = 0
        for style, ranges in drawn_styles(35, 40, 6):
            found = lean_found(style, ranges)
            self.check(found, style)
            self.assertIsNone(parting(lean(style), style))
            fewer += len(found) < len(style)
        self.assertGreater(fewer, 50)

    def test_known(self):
        self.check((PAGES[0], PAGES[2]), PAGES)
        self.check(YEARS.rules, YEARS)
        self.check((ONE, ALL), Style(10, ONE, ALL))
        self.check((ALL,), Style(10, ALL, ALL, ALL))
        self.check((ONE, ALL), Style(10, ONE, TWO, TWIN, ALL))
        self.check((ONE,), Style(10, TWIN, TWIN, ONE))
        self.assertEqual(lean(style=PAGES), Style(10, PAGES[0], PAGES[2]))

    def test_least_numbers(self):
        # Rules that are written otherwise, but write the same.
        first, second = ((("near", 0), ("ends", "5")), ("last", 1)), ((("ends", "5"), ("near", 0)), ("last", 1))
        self.check((first, ALL), Style(10, first, second, ALL))
        self.check((second, ALL), Style(10, second, first, ALL))
        self.check((TWIN, TWO), Style(10, second, TWIN, first, TWO))
        self.check((ALL, TWO), Style(10, ALL, first, second, TWIN, TWO))
        whole = ((("near", 6),), ("all",)), ((("length", 1, None),), ("all",))
        self.check((whole[1], ONE), Style(10, *whole, ONE))
        self.check((whole[1], ONE), Style(10, *whole, ALL, ONE))

    def test_fewer_than_by_taking_needless_ones_away(self):
        # Without the third rule, which is needless, both of the others are needed.
        low, high = ((("length", 1, 1),), ("all",)), ((("length", 2, None),), ("all",))
        self.check((ALL, ONE), Style(10, low, high, ALL, ONE))
        self.check((ALL, ONE), Style(10, ALL, low, high, ONE))

    def test_how_many(self):
        rules = [((("length", size, size),), ("last", size)) for size in (1, 2, 3, 4, 5)]
        self.check((*rules, ALL), Style(10, *rules, ALL))
        self.check((ALL,), Style(10, *[ALL] * 6))
        for many in (7, 8):
            for style in (Style(10, *[ALL] * many), Style(2, *[TWO] * (many - 1), ONE)):
                refused(self, TooMany, "most", 6, lean, style)

    def test_the_style_stays(self):
        rules = PAGES.rules
        self.assertEqual(lean(PAGES), lean(Style.of(10, rules)))
        self.assertEqual((PAGES.base, PAGES.rules), (10, rules))


class Mended(unittest.TestCase):
    def check(self, told, style, reader):
        made = mended(style, reader)
        self.assertIs(made.__class__, Style)
        self.assertEqual((made.base, made.rules), (style.base, told), (style.rules, reader))
        self.assertTrue(told_plainly(made.rules))

    def test_against_a_search(self):
        changed = 0
        for style, ranges in drawn_styles(36, 30, 8):
            for reader in READERS:
                wrong = {writes(style.rules, seen)[0] for pair, seen, fewest in ranges
                         if writes(style.rules, seen)[1] < fewest[reader]}
                changed += len(wrong)
                told = tuple((conditions, ("changed", keep[1])) if number in wrong else (conditions, keep)
                             for number, (conditions, keep) in enumerate(style.rules))
                self.check(told, style, reader)
                made = mended(style, reader)
                self.assertIsNone(misread(made, reader))
                self.assertIsNone(least_found(ranges, lambda seen, fewest:
                                              writes(made.rules, seen)[1] < fewest[reader]))
                self.assertEqual(mended(made, reader), made)
        self.assertGreater(changed, 50)

    def test_known(self):
        for reader in READERS:
            self.check((((), ("changed", 2)),), YEARS, reader)
            self.check(PAGES.rules, PAGES, reader)
            right = ((("near", 0), ("ends", "5")), ("last", 1))
            self.check((right, ((), ("changed", 1))), Style(10, right, ONE), reader)
            self.check((((("near", 2),), ("changed", 1)), ALL), Style(10, ((("near", 2),), ("last", 1)), ALL), reader)
            self.check((ALL, ONE), Style(10, ALL, ONE), reader)
        self.assertEqual(mended(style=YEARS, reader="next").rules, (((), ("changed", 2)),))
        # Enough digits for one reader, too few for the other one.
        near = ((("near", 1),), ("last", 1))
        self.check((near, ALL), Style(10, near, ALL), "next")
        self.check((((("near", 1),), ("changed", 1)), ALL), Style(10, near, ALL), "replace")
        self.assertEqual(misread_by(Style(10, near, ALL), "replace"), ((1, 10), None))

    def test_the_style_stays(self):
        rules = YEARS.rules
        self.assertEqual(mended(YEARS, "next"), mended(YEARS, "next"))
        self.assertEqual((YEARS.base, YEARS.rules), (10, rules))

    def test_refused(self):
        for reader in NO_READERS:
            refused(self, BadReader, "value", reader, mended, YEARS, reader)
            refused(self, BadReader, "value", reader, mended, style=PAGES, reader=reader)


class Sessions(unittest.TestCase):
    def test_years(self):
        told = misread(YEARS, "replace"), misread(YEARS, "next"), wasted(YEARS, "next"), mended(YEARS, "next").rules
        self.assertEqual(told, ((1, 100), (1, 102), (1, 10), (((), ("changed", 2)),)))

    def test_pages(self):
        self.assertEqual((needless(PAGES), len(lean(PAGES))), ((1,), 2))


if __name__ == "__main__":
    unittest.main()
