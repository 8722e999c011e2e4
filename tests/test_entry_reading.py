"""Texts of entries, read: what comes out, and the first part that is refused."""

import random
import unittest

from shortspans.deciding import mended, misread, misread_by
from shortspans.entries import entry_text, read_entry
from shortspans.errors import BadBase, BadManner, BadReader, BadText
from shortspans.styles import Style
from tests.entry_search import MANNERS, changed_row, drawn_entry, entry_read
from tests.helper import BASES, NO_BASES, NO_MANNERS, NO_READERS, NO_TEXTS, refused, told_plainly
from tests.search import READERS, drawn_style, text_of


class Reading(unittest.TestCase):
    def check(self, base, reader, manner, text):
        told = entry_read(base, reader, manner, text)
        if isinstance(told, int):
            self.check_refused(base, reader, manner, text, told)
        else:
            self.check_told(base, reader, manner, text, told)

    def check_told(self, base, reader, manner, text, entry):
        found = read_entry(base, reader, manner, text)
        self.assertEqual(found, entry, (base, reader, manner, text))
        self.assertTrue(told_plainly(found))

    def check_refused(self, base, reader, manner, text, word):
        with self.assertRaises(BadText) as caught:
            read_entry(base, reader, manner, text)
        self.assertEqual((caught.exception.line, caught.exception.word), (1, word), (base, reader, manner, text))

    def check_rows(self, rows):
        """Each row: the manner, the text, and for both readers an entry or the number of a part."""
        for manner, text, *told in rows:
            for reader, worth in zip(READERS, told):
                check = self.check_refused if isinstance(worth, int) else self.check_told
                check(10, reader, manner, text, worth)
                self.check(10, reader, manner, text)


class Known(Reading):
    def test_document(self):
        entry = (1101, (1234, 1237), 1240)
        self.assertEqual(read_entry(10, "replace", "running", "1101, 234-37, 40"), entry)
        self.assertEqual(read_entry(10, "replace", "full", "1101, 1234-37, 1240"), entry)
        self.assertEqual(read_entry(base=10, reader="next", manner="running", text="1101, 234-37, 40"), entry)
        self.assertEqual(read_entry(10, text="1101, 1234-37, 1240", manner="full", reader="next"), entry)

    def test_told(self):
        self.check_rows((
            ("full", "5", (5,), (5,)), ("running", "5", (5,), (5,)), ("full", "5-6", ((5, 6),), ((5, 6),)),
            ("full", "5, 6", (5, 6), (5, 6)), ("running", "5, 6", (5, 6), (5, 6)),
            ("full", "1234-7, 1238", ((1234, 1237), 1238), ((1234, 1237), 1238)),
            ("running", "1234-7, 8", ((1234, 1237), 1238), ((1234, 1237), 1238)),
            ("full", "1234-1", 1, ((1234, 1241),)), ("running", "1234, 1", 2, (1234, 1241)),
            ("running", "98-02, 5", 1, ((98, 102), 105)), ("running", "1234, 0200-1", 2, (1234, (10200, 10201))),
            ("running", "5, 010", 2, (5, 10)), ("running", "5, 003-1", 2, (5, (1003, 1011))),
            ("running", "50, 00", 2, (50, 100)), ("running", "150, 00", 2, (150, 200)), ("running", "5, 0", 2, (5, 10)),
        ))

    def test_refused(self):
        self.check_rows([(manner, text, word, word) for manner in MANNERS for text, word in (
            ("", 1), (" ", 1), (",", 1), (", ", 1), ("-", 1), ("5,", 1), ("5, ", 2), ("5 ", 1), (" 5", 1), (", 5", 1),
            ("5,6", 1), ("5,  6", 2), ("5 , 6", 1), ("5, 6,", 2), ("5, 6, ", 3), ("5, , 6", 2), ("5; 6", 1), ("5-", 1),
            ("-5", 1), ("5, -6", 2), ("5, 6-", 2), ("5-6-7", 1), ("5--6", 1), ("5 - 6", 1), ("5, 6-7-", 2), ("a", 1),
            ("5, 6\n", 2), ("5\n6", 1), ("\n5", 1), ("5\n", 1), ("5\n, 6", 1), ("5, six", 2), ("0", 1), ("05", 1),
            ("0-5", 1), ("05-6", 1), ("00, 5", 1), ("+5", 1), ("1_0", 1), ("5.0", 1), ("5, \u0666", 2), ("\u00b2", 1),
            ("5,, 6", 1), ("maps: 5", 1), ("5-6, 7-8, 9-", 3), ("5" + "-" * 5000, 1), ("5, , , 5, 5", 2),
            ("0, 5, 5", 1), ("5, 6, x, 0", 3), ("5, x, 05, -", 2), (", " * 51, 1),
        )])
        self.check_rows((
            ("full", "5, 5", 2, 2), ("full", "5, 4", 2, 2), ("full", "5-8, 8", 2, 2), ("full", "5-8, 6-9", 2, 2),
            ("full", "12, 3", 2, 2), ("full", "12, 013", 2, 2), ("full", "12, 0", 2, 2),
            ("full", "5-9, 10-1, 11", 3, 3), ("full", "5-10, 11-09", 2, ((5, 10), (11, 109))),
            ("running", "5-8, 8", 2, ((5, 8), 18)), ("running", "5, 5", 2, (5, 15)),
            ("running", "5, 4-3", 2, (5, (14, 23))), ("full", "9-4", 1, ((9, 14),)), ("full", "5-5, x", 1, 2),
            ("full", "5, 6, 07-8", 3, 3), ("full", "5, 6-07, 0", 2, 3),
        ))

    def test_figures_of_the_base(self):
        for base in BASES:
            for reader in READERS:
                for manner in MANNERS:
                    self.check_told(base, reader, manner, "1" + str(base - 1), (2 * base - 1,))
                    self.check(base, reader, manner, "1, 1" + str(base - 1) + "-" + str(base - 1) * 2)
                    for figure in "0123456789"[base:]:
                        for text, word in (("{}", 1), ("1{}", 1), ("1-{}", 1), ("1, 1{}", 2), ("1, 10-1{}", 2)):
                            self.check_refused(base, reader, manner, text.format(figure), word)

    def test_how_many_parts(self):
        for manner in MANNERS:
            for many in (49, 50, 51, 52, 1000):
                text = ", ".join(str(100 + at) for at in range(many))
                for reader in READERS:
                    told = tuple(range(100, 100 + many)) if many <= 50 else 51
                    (self.check_refused if many > 50 else self.check_told)(10, reader, manner, text, told)
                    self.check_refused(10, reader, manner, "x, " + text, 1)
                    self.check_refused(10, reader, manner, text + ", x", min(many + 1, 51))

    def test_how_many_digits(self):
        for base in BASES:
            for many in (999, 1000, 1001):
                great = "1" + "0" * (many - 1)
                for reader in READERS:
                    for manner in MANNERS:
                        for text, told, word in (
                                (great, (base ** (many - 1),), 1), ("1-" + great, ((1, base ** (many - 1)),), 1),
                                ("1, " + great, (1, base ** (many - 1)), 2),
                                ("1, 10-" + great, (1, (base, base ** (many - 1))), 2)):
                            if many > 1000:
                                self.check_refused(base, reader, manner, text, word)
                            else:
                                self.check_told(base, reader, manner, text, told)
            # A tail may have as many digits, all zeros, too.
            self.check_told(base, "next", "running", "1, " + "0" * 1000, (1, base ** 1000))
            self.check_refused(base, "replace", "running", "1, " + "0" * 1000, 2)
            self.check_refused(base, "next", "running", "1, " + "0" * 1001, 2)
            self.check_told(base, "next", "full", "1" + "0" * 999 + "-" + "0" * 1000, ((base ** 999, base ** 1000),))


class Drawn(Reading):
    def test_back(self):
        """A style that a reader gets right, mended or by itself: each entry is read back."""
        draw = random.Random(431)
        right = 0
        for base in BASES:
            for times in range(6):
                style = drawn_style(draw, base, 3, draw.randint(1, 4))
                for reader in READERS:
                    if misread(style, reader) is None:
                        right += 1
                    else:
                        pair = misread(style, reader)
                        self.assertNotEqual(self.outcome(style, reader, (pair,)), (pair,))
                    fit = mended(style, reader)
                    self.assertEqual(fit == style, misread(style, reader) is None)
                    for many in (1, 2, 5, 12, 50):
                        entry = drawn_entry(draw, base, many, draw.choice((2, 4, 30)))
                        for manner in MANNERS:
                            text = entry_text(fit, manner, entry)
                            self.check_told(base, reader, manner, text, entry)
        self.assertGreater(right, 10)

    def outcome(self, style, reader, entry):
        """What is read of an entry's text, the same in both manners."""
        found = []
        for manner in MANNERS:
            try:
                found.append(read_entry(style.base, reader, manner, entry_text(style, manner, entry)))
            except BadText as error:
                found.append((error.line, error.word))
        self.assertEqual(found[0], found[1])
        return found[0]

    def test_each_misread_range(self):
        draw = random.Random(432)
        for times in range(20):
            style = drawn_style(draw, draw.choice((2, 3, 10)), 3, draw.randint(1, 4))
            for reader in READERS:
                for pair in misread_by(style, reader):
                    if pair is not None:
                        self.assertNotEqual(self.outcome(style, reader, (pair,)), (pair,))
        years = Style(10, ((), ("last", 2)))
        self.assertEqual(self.outcome(years, "replace", ((1, 100),)), (1, 1))
        self.assertEqual(self.outcome(years, "next", ((1, 102),)), ((1, 2),))
        self.assertEqual(self.outcome(years, "next", ((1, 101),)), ((1, 101),))

    def test_of_any_style(self):
        draw = random.Random(421)
        for base in BASES:
            for times in range(40):
                style = drawn_style(draw, base, 6, draw.randint(1, 6))
                for manner in MANNERS:
                    text = entry_text(style, manner, drawn_entry(draw, base, draw.randint(1, 20), draw.randint(1, 6)))
                    for reader in READERS:
                        for read in MANNERS:
                            self.check(base, reader, read, text)

    def test_signs_changed(self):
        draw = random.Random(422)
        for base in BASES:
            for times in range(150):
                style = drawn_style(draw, base, 4, draw.randint(1, 4))
                manner = draw.choice(MANNERS)
                text = entry_text(style, manner, drawn_entry(draw, base, draw.randint(1, 8), draw.randint(1, 4)))
                for change in range(draw.randint(1, 3)):
                    text = "".join(changed_row(draw, text, ",, --\n0000123456789a"))
                for reader in READERS:
                    self.check(base, reader, manner, text)

    def test_parts_changed(self):
        draw = random.Random(423)
        for base in BASES:
            for times in range(80):
                style = drawn_style(draw, base, 4, draw.randint(1, 4))
                manner = draw.choice(MANNERS)
                entry = drawn_entry(draw, base, draw.choice((1, 3, 8, 49, 50)), draw.randint(1, 4))
                parts = entry_text(style, manner, entry).split(", ")
                for change in range(draw.randint(1, 3)):
                    parts = changed_row(draw, parts, ("", "0", "1", "01-1", "1-0", "10", "1-", text_of(base, 700)))
                for reader in READERS:
                    self.check(base, reader, manner, ", ".join(parts))


class Refused(unittest.TestCase):
    def test_in_order(self):
        for base in NO_BASES:
            for rest in (("next", "full", "1"), (None, None, None), ("", "", "")):
                refused(self, BadBase, "value", base, read_entry, base, *rest)
        for reader in NO_READERS:
            for rest in (("full", "1"), (None, None), ("", "")):
                refused(self, BadReader, "value", reader, read_entry, 10, reader, *rest)
        for reader in READERS:
            for manner in NO_MANNERS:
                for text in ("1", None, ""):
                    refused(self, BadManner, "value", manner, read_entry, 10, reader, manner, text)

    def test_no_texts(self):
        for value in NO_TEXTS:
            for reader in READERS:
                for manner in MANNERS:
                    with self.assertRaises(BadText) as caught:
                        read_entry(10, reader, manner, value)
                    self.assertEqual((caught.exception.line, caught.exception.word), (0, 0))


if __name__ == "__main__":
    unittest.main()
