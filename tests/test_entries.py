"""Entries: what is one, and the text of one."""

import random
import unittest

from shortspans import entries
from shortspans.entries import entry_text, need_entry
from shortspans.errors import BadEntry, BadManner
from shortspans.styles import Style
from tests.entry_search import MANNERS, drawn_entry, text_of_entry
from tests.helper import BASES, GREAT, NO_INTEGERS, NO_MANNERS, NO_NUMBERS, Agreeing, nested, refused
from tests.search import drawn_style, text_of

ALL = ((), ("all",))
SHORT = Style(10, ((), ("changed", 1)))
PAGES = Style(10, ((("ends", "00"),), ("all",)), ((("length", 1, 2),), ("all",)), ((), ("changed", 2)))
NO_TUPLES = [value for value in NO_INTEGERS if not isinstance(value, tuple)] + [0, 1, -1, 5, GREAT, [1, (2, 3)], {1: 2}]
NO_ITEMS = [value for value in NO_NUMBERS if value != (1, 2)] + [
    (1000, 999), (1000, 1000), (1000, 1001, 1002), (1000,), [1000, 1001], (True, 1000), (1000, True), (None, 1000),
    (1000, None), (0, 1000), (-1, 1000), (-2, -1), ("1000", "1001"), (1000, "1001"), ((1000, 1001), 1002),
    (1000, (1001, 1002)), ((1000, 1001),), "1000", "1000-1001", b"1000", {1000: 1001}, (1000, [1001]), nested(49),
]


class Pair(tuple):
    """A tuple of a caller's own."""


class Needed(unittest.TestCase):
    def test_words(self):
        self.assertEqual(entries.MANNERS, ("full", "running"))

    def test_entries(self):
        for entry in ((1,), ((1, 2),), (1, 2, 3), (1, (2, 3), 4, (5, 6)), (GREAT, (GREAT + 1, GREAT + 2)),
                      ((1, GREAT),), (1101, (1234, 1237), 1240), Pair((1, Pair((2, 3)))), tuple(range(1, 51)),
                      tuple((at, at + 1) for at in range(1, 100, 2))):
            self.assertIs(need_entry(entry), entry)
            self.assertIs(need_entry(value=entry), entry)

    def test_no_entries(self):
        for value in NO_TUPLES:
            refused(self, BadEntry, "place", None, need_entry, value)
        for value in ((), tuple(range(1, 52)), (1,) * 51, (None,) * 51, tuple(range(1, 1001)), Pair()):
            refused(self, BadEntry, "place", None, need_entry, value)
        refused(self, BadEntry, "place", None, need_entry, value=None)
        refused(self, BadEntry, "place", 0, need_entry, nested(50))

    def test_no_items(self):
        draw = random.Random(401)
        for value in NO_ITEMS:
            refused(self, BadEntry, "place", 0, need_entry, (value,))
            for times in range(3):
                entry = drawn_entry(draw, 10, draw.randint(1, 49), 2)
                at = draw.randrange(len(entry) + 1)
                refused(self, BadEntry, "place", at, need_entry, entry[:at] + (value,) + entry[at:])
                refused(self, BadEntry, "place", at, need_entry, entry[:at] + (value, value) + entry[at + 1:])

    def test_not_greater(self):
        draw = random.Random(402)
        for times in range(300):
            entry = drawn_entry(draw, 10, draw.randint(1, 48), 4)
            at = draw.randrange(1, len(entry) + 1)
            first, last = entry[at - 1] if isinstance(entry[at - 1], tuple) else (entry[at - 1],) * 2
            wrong = draw.choice((first, last, draw.randint(1, last), 1))
            for item in (wrong, (wrong, last + draw.randint(1, 9)), (wrong, GREAT)):
                refused(self, BadEntry, "place", at, need_entry, entry[:at] + (item,) + entry[at:])
            for item in (last + 1, (last + 1, last + 2), (last + 1, GREAT)):
                self.assertEqual(need_entry(entry[:at] + (item,)), entry[:at] + (item,))

    def test_the_first_one_counts(self):
        refused(self, BadEntry, "place", 1, need_entry, (5, 5, None))
        refused(self, BadEntry, "place", 1, need_entry, (5, None, 5))
        refused(self, BadEntry, "place", 2, need_entry, ((1, 5), 6, (6, 7), (9, 8)))
        refused(self, BadEntry, "place", 1, need_entry, (5, (4, 9), 7))
        refused(self, BadEntry, "place", 49, need_entry, tuple(range(1, 50)) + (49,))


class Text(unittest.TestCase):
    def check(self, style, manner, entry):
        told = entry_text(style, manner, entry)
        self.assertEqual(told, text_of_entry(style, manner, entry), (style.rules, manner, entry))

    def test_document(self):
        entry = (1101, (1234, 1237), 1240)
        self.assertEqual(entry_text(PAGES, "full", entry), "1101, 1234-37, 1240")
        self.assertEqual(entry_text(PAGES, "running", entry), "1101, 234-37, 40")
        self.assertEqual(entry_text(style=PAGES, manner="running", entry=entry), "1101, 234-37, 40")
        self.assertEqual(entry_text(PAGES, entry=entry, manner="full"), "1101, 1234-37, 1240")

    def test_known(self):
        years = Style(10, ((), ("last", 2)))
        for style, entry, full, running in (
                (SHORT, (5,), "5", "5"), (SHORT, ((5, 6),), "5-6", "5-6"), (SHORT, (99, 100), "99, 100", "99, 100"),
                (SHORT, (1, 2, 3), "1, 2, 3", "1, 2, 3"),
                (SHORT, (98, 99, (100, 109), 110, 111), "98, 99, 100-9, 110, 111", "98, 9, 100-9, 10, 1"),
                (years, (1914, (1998, 2001), (2002, 2003)), "1914, 1998-01, 2002-03", "1914, 98-01, 02-03"),
                (years, (5, 100, 1000), "5, 100, 1000", "5, 00, 00"),
                (Style(2, ((), ("changed", 1))), (1, 2, (3, 4)), "1, 10, 11-100", "1, 10, 1-100"),
                (PAGES, (1100, 1103, (1200, 1203)), "1100, 1103, 1200-1203", "1100, 1103, 200-1203")):
            self.assertEqual(entry_text(style, "full", entry), full)
            self.assertEqual(entry_text(style, "running", entry), running)
            for manner in MANNERS:
                self.check(style, manner, entry)

    def test_changes_of_digits(self):
        for base in BASES:
            for style in (Style(base, ((), ("changed", 1))), Style(base, ((), ("last", 2))), Style(base, ALL)):
                for power in (base ** 2, base ** 3, base ** 4):
                    for entry in ((power - 1, power), ((1, power - 1), power), (power - 1, (power, power + 1)),
                                  (1, (power - 1, power), power + 1), ((power, 2 * power - 1), (2 * power, 3 * power)),
                                  (base - 1, base, (base + 1, power))):
                        for manner in MANNERS:
                            self.check(style, manner, entry)

    def test_drawn(self):
        draw = random.Random(411)
        for base in BASES:
            for times in range(60):
                style = drawn_style(draw, base, 6, draw.randint(1, 8))
                entry = drawn_entry(draw, base, draw.choice((1, 2, 3, 8, 50)), draw.randint(1, 9))
                for manner in MANNERS:
                    self.check(style, manner, entry)

    def test_great(self):
        entry = tuple((GREAT + 10 ** at, GREAT + 10 ** at + 9) for at in range(2, 52))
        for base in (2, 10):
            style = Style(base, ((("near", 4),), ("changed", 2)), ALL)
            told = entry_text(style, "running", entry).split(", ")
            self.assertEqual(len(told), 50)
            self.assertEqual(told[0], style(*entry[0]))
            for (ahead, item), part in zip(zip(entry, entry[1:]), told[1:]):
                self.assertEqual(part, style.tail(ahead[1], item[0]) + "-" + style.tail(*item))
        self.assertEqual(entry_text(SHORT, "full", (GREAT,)), text_of(10, GREAT))

    def test_what_is_passed_stays(self):
        rules, entry = PAGES.rules, (1101, Pair((1234, 1237)), 1240)
        for times in range(2):
            self.assertEqual(entry_text(PAGES, "running", entry), "1101, 234-37, 40")
        self.assertEqual((PAGES.rules, entry), (rules, (1101, (1234, 1237), 1240)))

    def test_refused_manners(self):
        for manner in NO_MANNERS:
            for entry in ((5,), (), None, (5, 5)):
                refused(self, BadManner, "value", manner, entry_text, SHORT, manner, entry)
        with self.assertRaises(BadManner):
            entry_text(SHORT, Agreeing(), (5,))

    def test_refused_entries(self):
        for manner in MANNERS:
            for value in NO_TUPLES + [(), tuple(range(1, 52))]:
                refused(self, BadEntry, "place", None, entry_text, SHORT, manner, value)
            for value in NO_ITEMS:
                refused(self, BadEntry, "place", 2, entry_text, SHORT, manner, (5, (6, 9), value, None))
            refused(self, BadEntry, "place", 1, entry_text, SHORT, manner, (5, 5, 6))
            refused(self, BadEntry, "place", 1, entry_text, style=SHORT, manner=manner, entry=(5, (5, 6)))


if __name__ == "__main__":
    unittest.main()
