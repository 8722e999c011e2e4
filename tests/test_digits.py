"""Numbers, their digits, and ranges."""

import unittest

from shortspans.digits import changed, digits, length, near, number_of
from shortspans.errors import BadBase, BadDigits, BadNumber
from tests.helper import BASES, NO_BASES, NO_NUMBERS, NO_RANGES, nested, refused, refused_range

GREAT = (10 ** 99, 7 ** 300 + 12345, 10 ** 999, 10 ** 1000 - 1, 123456789 * 10 ** 900 + 1)


def written(base, number):
    """The digits by powers of the base, from the most significant one down."""
    power = 1
    while power * base <= number:
        power *= base
    figures = ""
    while power > 0:
        figures += str(number // power % base)
        power //= base
    return figures


class Digits(unittest.TestCase):
    def test_known(self):
        self.assertEqual(digits(2, 10), "1010")
        self.assertEqual(digits(10, 1234), "1234")
        self.assertEqual(digits(7, 48), "66")
        self.assertEqual(digits(7, 49), "100")
        self.assertEqual(digits(base=3, number=5), "12")

    def test_small(self):
        for base in BASES:
            for number in range(1, 700):
                text = digits(base, number)
                self.assertEqual(text, written(base, number))
                self.assertEqual(int(text, base), number)
                self.assertEqual(length(base, number), len(text))
                self.assertEqual(number_of(base, text), number)

    def test_great(self):
        for base in BASES:
            for number in GREAT:
                text = digits(base, number)
                self.assertEqual(text, written(base, number))
                self.assertEqual(length(base, number), len(text))
                self.assertEqual(number_of(base, text), number)
        self.assertEqual(length(2, 10 ** 1000 - 1), 3322)

    def test_powers(self):
        for base in BASES:
            for exponent in (1, 2, 17, 300):
                self.assertEqual(digits(base, base ** exponent), "1" + "0" * exponent)
                self.assertEqual(digits(base, base ** exponent - 1), str(base - 1) * exponent)
                self.assertEqual(length(base, base ** exponent), exponent + 1)
                self.assertEqual(length(base, base ** exponent - 1), exponent)

    def test_refused_base(self):
        for base in NO_BASES:
            for number in (5, 0, None, "x"):
                refused(self, BadBase, "value", base, digits, base, number)
                refused(self, BadBase, "value", base, length, base, number)
                refused(self, BadBase, "value", base, number_of, base, number)

    def test_refused_number(self):
        for base in (2, 10):
            for number in NO_NUMBERS:
                refused(self, BadNumber, "value", number, digits, base, number)
                refused(self, BadNumber, "value", number, length, base, number)
        refused(self, BadNumber, "value", 0, length, base=2, number=0)


class NumberOf(unittest.TestCase):
    def test_known(self):
        self.assertEqual(number_of(10, "1300"), 1300)
        self.assertEqual(number_of(2, "1010"), 10)
        self.assertEqual(number_of(base=9, text="88"), 80)

    def test_refused_texts(self):
        texts = ("", "0", "00", "01", "0" * 50, "+1", "-1", " 1", "1 ", "1\n", "\n1", "1 1", "1_1", "1,1", "1.0",
                 "a", "1a", "0x1", "0b1", "1-2", "*", "/", ":", "1e3", "\u0661", "\u00b2", "1\u0662")
        for base in (2, 7, 10):
            for text in texts:
                refused(self, BadDigits, "value", text, number_of, base, text)

    def test_figures_of_the_base(self):
        for base in BASES:
            for figure in range(1, 10):
                for text, worth in ((str(figure), figure), ("1" + str(figure), base + figure)):
                    if figure < base:
                        self.assertEqual(number_of(base, text), worth)
                    else:
                        refused(self, BadDigits, "value", text, number_of, base, text)

    def test_longest(self):
        for base in BASES:
            self.assertEqual(number_of(base, "1" + "0" * 3999), base ** 3999)
            for many in (4001, 4002, 20000):
                text = "1" * many
                refused(self, BadDigits, "value", text, number_of, base, text)

    def test_no_texts(self):
        for value in NO_NUMBERS + (1, 10, ["1"], ("1",), {"1": "1"}, b"1", nested(49)):
            if not isinstance(value, str):
                refused(self, BadDigits, "value", value, number_of, 10, value)


def changed_digits(base, first, second):
    """Changed, from the texts of both numbers."""
    one, two = written(base, first), written(base, second)
    if len(one) != len(two):
        return len(two)
    return max(len(two) - at for at in range(len(two)) if one[at] != two[at])


class Ranges(unittest.TestCase):
    def test_table(self):
        table = ((5, 6, 1, 0), (1234, 1237, 1, 1), (199, 201, 3, 1), (96, 117, 3, 2))
        for first, second, change, gap in table:
            self.assertEqual(changed(10, first, second), change)
            self.assertEqual(near(10, first, second), gap)
            self.assertEqual(changed(base=10, first=first, second=second), change)
            self.assertEqual(near(base=10, first=first, second=second), gap)

    def test_small(self):
        for base in BASES:
            for first in range(1, 45):
                for second in range(first + 1, 110):
                    self.assertEqual(changed(base, first, second), changed_digits(base, first, second))
                    gap = near(base, first, second)
                    self.assertLessEqual(second - first, base ** gap)
                    self.assertTrue(gap == 0 or second - first > base ** (gap - 1))

    def test_near_at_powers(self):
        for base in BASES:
            for first in (1, 10 ** 40 + 7):
                for exponent in (1, 2, 5, 50, 300):
                    power = base ** exponent
                    self.assertEqual(near(base, first, first + power), exponent)
                    self.assertEqual(near(base, first, first + power + 1), exponent + 1)
                    less = exponent - 1 if power == 2 else exponent
                    self.assertEqual(near(base, first, first + power - 1), less)

    def test_great(self):
        for base in BASES:
            for first in GREAT:
                for step in (1, base, base + 1, base ** 20, first):
                    self.assertEqual(changed(base, first, first + step), changed_digits(base, first, first + step))
            self.assertEqual(changed(base, base ** 299, base ** 300 - 1), 299 if base == 2 else 300)
            self.assertEqual(changed(base, base ** 300 - 1, base ** 300), 301)
            self.assertEqual(near(base, base ** 300 - 1, base ** 300), 0)
            self.assertEqual(changed(base, base ** 300, base ** 300 + 1), 1)

    def test_refused_base(self):
        for base in NO_BASES:
            for pair in ((1, 2), (2, 1), (None, None)):
                refused(self, BadBase, "value", base, changed, base, *pair)
                refused(self, BadBase, "value", base, near, base, *pair)

    def test_refused_ranges(self):
        for pair in NO_RANGES:
            for call in (changed, near):
                refused_range(self, pair, call, 10, *pair)


class Session(unittest.TestCase):
    def test_example(self):
        told = [changed(10, 199, 201), near(10, 199, 201), changed(10, 96, 117), near(10, 96, 117)], digits(2, 10)
        self.assertEqual(told, ([3, 1, 3, 2], "1010"))


if __name__ == "__main__":
    unittest.main()
