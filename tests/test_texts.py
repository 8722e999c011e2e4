"""Texts of styles: what is written, what is read of it, and the first word that cannot stand."""

import random
import unittest

from shortspans.errors import BadRule, BadText
from shortspans.styles import Style
from shortspans.texts import read_style, style_text
from tests.entry_search import changed_row, drawn_any_rules, fault_of_style, text_of_style
from tests.helper import BASES, NO_TEXTS, told_plainly

ALL = ((), ("all",))
PAGES = Style(10, ((("ends", "00"),), ("all",)), ((("length", 1, 2),), ("all",)), ((), ("changed", 2)))
PAGES_TEXT = "base 10\nall when ends 00\nall when length 1 2\nchanged 2"
NONE = None.__class__
SIZES = ("1", "2", "3", "4", "5", "6")
NO_SIZES = ("7", "10", "01", "06", "-1", "+1", "1.", "1,", "x", "*1", "", "all", "None", "\u0661", "1_0", "66",
            "\u00b2")
WORDS = ("all", "changed", "last", "when", "ends", "length", "near", "base", "0", "1", "2", "6", "7", "00", "01", "5",
         "10", "000", "*", "", "x", "All", "-1")
LINES = ("", " ", "all", "changed 1", "last 6", "last 7", "base 10", "all when", "last 1 when near 0", "all all", "2",
         "last 2 when ends 0 ends 1 ends 00 ends 1", "changed 2 when length 1 * changed 1 1", "all when changed 2 1")


class Checked(unittest.TestCase):
    def check_refused(self, text, line, word):
        with self.assertRaises(BadText) as caught:
            read_style(text)
        self.assertEqual((caught.exception.line, caught.exception.word), (line, word), repr(text))

    def check_bad_rule(self, text, number):
        with self.assertRaises(BadRule) as caught:
            read_style(text)
        self.assertEqual(caught.exception.place, number, repr(text))

    def check(self, text):
        fault = fault_of_style(text)
        if fault is None:
            style = read_style(text)
            self.assertEqual(text_of_style(style.base, style.rules), text)
            self.assertEqual(style_text(style), text)
            self.assertTrue(told_plainly(style.rules))
        elif isinstance(fault, tuple):
            self.check_refused(text, *fault)
        else:
            self.check_bad_rule(text, fault)
        return fault


class Written(Checked):
    def test_document(self):
        self.assertEqual(style_text(PAGES), PAGES_TEXT)
        self.assertEqual(style_text(style=PAGES), PAGES_TEXT)
        self.assertEqual(read_style(PAGES_TEXT), PAGES)
        self.assertEqual(read_style(text=PAGES_TEXT), PAGES)
        style = read_style("base 10\nlast 1 when near 1 ends 0\nchanged 2")
        self.assertEqual(style.rules, (((("near", 1), ("ends", "0")), ("last", 1)), ((), ("changed", 2))))
        self.assertEqual(style_text(style), "base 10\nlast 1 when near 1 ends 0\nchanged 2")

    def test_known(self):
        for base, rules, text in (
                (2, (ALL,), "base 2\nall"), (9, (((), ("last", 6)),), "base 9\nlast 6"),
                (10, (ALL, ALL), "base 10\nall\nall"),
                (7, (((("length", 3, 5),), ("all",)), ALL), "base 7\nall when length 3 5\nall"),
                (7, (((("length", 3, None),), ("all",)), ALL), "base 7\nall when length 3 *\nall"),
                (3, (((("changed", 1, 2), ("changed", 6, None), ("ends", "0")), ("changed", 4)), ALL),
                 "base 3\nchanged 4 when changed 1 2 changed 6 * ends 0\nall"),
                (10, (((("near", 0), ("near", 6), ("ends", "09")), ("last", 1)), ALL),
                 "base 10\nlast 1 when near 0 near 6 ends 09\nall"),
                (10, (((("near", 1),) * 3, ("last", 1)),) * 7 + (ALL,),
                 "base 10\n" + "last 1 when near 1 near 1 near 1\n" * 7 + "all")):
            self.assertEqual(style_text(Style.of(base, rules)), text)
            self.assertEqual(read_style(text), Style.of(base, rules))
            self.assertIsNone(self.check(text))

    def test_drawn(self):
        draw = random.Random(481)
        found = {}
        for base in BASES:
            for times in range(100):
                style = Style.of(base, drawn_any_rules(draw, base))
                text = style_text(style)
                self.assertEqual(text, text_of_style(base, style.rules))
                back = read_style(text)
                self.assertEqual(back, style)
                self.assertEqual((back.base, back.rules), (base, style.rules))
                self.assertIsNone(self.check(text))
                # Unlike styles have unlike texts.
                self.assertEqual(found.setdefault(text, (base, style.rules)), (base, style.rules))

    def test_what_is_passed_stays(self):
        rules = PAGES.rules
        for times in range(2):
            self.assertEqual(style_text(PAGES), PAGES_TEXT)
        self.assertEqual(PAGES.rules, rules)


class Refused(Checked):
    def check_rows(self, rows):
        for text, line, word in rows:
            self.check_refused(text, line, word)
            self.check(text)

    def test_no_texts(self):
        for value in NO_TEXTS:
            self.check_refused(value, 0, 0)

    def test_first_line(self):
        self.check_rows((
            ("", 1, 1), (" ", 1, 1), ("\n", 1, 1), ("\nbase 10\nall", 1, 1), (" base 10\nall", 1, 1), ("base", 1, 2),
            ("base\nall", 1, 2), ("base ", 1, 2), ("base 10 ", 1, 3), ("base 10 \nall", 1, 3), ("base  10\nall", 1, 2),
            ("Base 10\nall", 1, 1), ("base10\nall", 1, 1), ("10\nall", 1, 1), ("all", 1, 1), ("base 10 10\nall", 1, 3),
            ("base 10 all", 1, 3), ("base x\nlast 9", 1, 2), ("base 10\r\nall", 1, 2), ("bases 10\nall", 1, 1),
        ))
        for word in ("0", "1", "11", "010", "02", "100", "-2", "+2", "2.0", "ten", "*", "", "1 0", "12", "20",
                     "\u0662"):
            self.check_refused("base " + word + "\nall", 1, 2)
        for base in BASES:
            self.assertEqual(read_style(f"base {base}\nall"), Style(base, ALL))

    def test_lines(self):
        self.check_rows((
            ("base 10", 2, 1), ("base 2", 2, 1), ("base 10\n", 2, 1), ("base 10\n\nall", 2, 1),
            ("base 10\nall\n", 3, 1),
            ("base 10\nall\n\n", 3, 1), ("base 10\nall\n\nall", 3, 1), (PAGES_TEXT + "\n", 5, 1),
            (PAGES_TEXT + "\n\n\n\n\n\n\n\n\n", 5, 1), ("base 10\n" + "all\n" * 8 + "all", 10, 1),
            ("base 10\n" + "all\n" * 8, 10, 1), ("base 10\n" + "all\n" * 8 + "x y", 10, 1),
            ("base 10\n" + "all\n" * 3000, 10, 1), ("base 10\n" + "all\n" * 7 + "al\nall", 9, 1),
            ("base 10\n" + "all\n" * 7 + "all when near 1\nall", 10, 1), ("base 10\nbase 10", 2, 1),
            ("base 10\n" + "all\n" * 8 + "all\nall when", 10, 1),
        ))

    def test_keeps(self):
        self.check_rows([("base 10\n" + line, 2, word) for line, word in (
            (" ", 1), (" all", 1), ("all ", 2), ("all  when near 1", 2), ("All", 1), ("al", 1), ("alls", 1),
            ("all 1", 2),
            ("all all", 2), ("all changed 1", 2), ("changed", 2), ("changed ", 2), ("last", 2), ("last 1 ", 3),
            ("last 1 1", 3), ("last 1 last", 3), ("last *", 2), ("changed *", 2), ("changed 0", 2), ("last 0", 2),
            ("near 1", 1), ("ends 0", 1), ("length 1 2", 1), ("when near 1", 1), ("1", 1), ("keep 1", 1),
            ("changed 2 3", 3), ("last when near 1", 2), ("all when", 3), ("all when ", 3), ("last 1 when", 4),
            ("changed 1 when", 4), ("all When near 1", 2), ("all if near 1", 2), ("all near 1", 2),
            ("all when when", 3),
            ("all when all", 3), ("all when last 1", 3), ("all when near", 4),
        )])
        for word in ("changed", "last"):
            for size in SIZES:
                self.assertEqual(read_style("base 10\n" + word + " " + size).rules, (((), (word, int(size))),))
            for size in NO_SIZES + ("0", "*"):
                self.check_refused("base 10\n" + word + " " + size, 2, 2)
                self.check_refused("base 10\n" + word + " " + size + " when", 2, 2)

    def test_conditions(self):
        self.check_rows([("base 10\nall when " + line + "\nall", 2, word) for line, word in (
            ("ends", 4), ("near", 4), ("length", 4), ("changed", 4), ("length 1", 5), ("changed 1", 5), ("ends ", 4),
            ("near 7", 4), ("near -1", 4), ("near 00", 4), ("near *", 4), ("near 1 1", 5), ("near 1 2", 5),
            ("near 1 when near 1", 5), ("near 1 and near 2", 5), ("near 1, near 2", 4), ("length * 2", 4),
            ("length 0 2", 4), ("length 7 *", 4), ("length 3 2", 5), ("length 6 5", 5), ("length 1 7", 5),
            ("length 1 0", 5), ("changed 2 1", 5), ("changed 1 ** ", 5), ("length 1 None", 5), ("length 1 2 3", 6),
            ("ends 000", 4), ("ends 123", 4), ("ends 0 0", 5), ("ends *", 4), ("ends 0a", 4), ("ends -1", 4),
            ("near 1 near 1 near 1 near 1", 9), ("near 1 near 1 near 1 ", 9), ("near 1 near 1 near 1 x", 9),
            ("length 1 2 length 1 2 length 1 2 near 1", 12), ("ends 0 near 1 length 1 * when", 10),
            ("near 1 ", 5), ("near  1", 4), ("near 1  near 1", 5), ("near 1 last 1", 5), ("near 1 near 1 near", 8),
        )])
        for word in ("length", "changed"):
            for least in SIZES:
                for most in SIZES + ("*",):
                    text = f"base 4\nlast 2 when {word} {least} {most}\nall"
                    if most < least and most != "*":
                        self.check_refused(text, 2, 6)
                    else:
                        told = (word, int(least), None if most == "*" else int(most))
                        self.assertEqual(read_style(text).rules, (((told,), ("last", 2)), ALL))
                for most in NO_SIZES + ("0",):
                    self.check_refused(f"base 4\nlast 2 when {word} {least} {most}\nall", 2, 6)
            for least in NO_SIZES + ("0", "*"):
                self.check_refused(f"base 4\nlast 2 when {word} {least} 6\nall", 2, 5)
        for size in ("0",) + SIZES:
            self.assertEqual(read_style(f"base 4\nall when near {size}\nall")[0], ((("near", int(size)),), ("all",)))
        for size in NO_SIZES + ("*",):
            self.check_refused(f"base 4\nall when near {size}\nall", 2, 4)

    def test_endings(self):
        figures = "0123456789"
        for base in BASES:
            for ending in [one + other for one in ("",) + tuple(figures) for other in figures]:
                text = f"base {base}\nall when ends {ending}\nall"
                if all(int(figure) < base for figure in ending):
                    self.assertEqual(read_style(text)[0], ((("ends", ending),), ("all",)))
                else:
                    self.check_refused(text, 2, 4)
            for ending in ("000", "111", "0101", "a", "\u0660", "\u00b9", "0.", "*", "+0"):
                self.check_refused(f"base {base}\nall when ends {ending}\nall", 2, 4)

    def test_the_first_fault_counts(self):
        self.check_rows((
            ("base 10\nall x\nall y", 2, 2), ("base 10\nall\nlast 7 when when", 3, 2), ("base 11 x\nall", 1, 2),
            ("base 10\nlast 0 0\n", 2, 2), ("bas 11\nlast 0", 1, 1), ("base 10 \nlast 0", 1, 3),
            ("base 10\nall when near 7 near 8\nall", 2, 4), ("base 10\nall when near 1\nall when", 3, 3),
            ("base 10\nall\nall when near 1\n", 4, 1),
        ))

    def test_last_rule(self):
        for text, number in (("base 10\nall when near 1", 0), ("base 10\nall\nall when near 1", 1),
                             ("base 10\n" + "all\n" * 7 + "last 1 when ends 0 ends 1", 7),
                             ("base 2\nall when near 1\nall when near 1", 1)):
            self.check_bad_rule(text, number)
            self.assertEqual(self.check(text), number)

    def test_signs_changed(self):
        draw = random.Random(482)
        kinds = self.count_changed(draw, 120, list, "".join, "  \n\n0123456789*xawn")
        self.assertTrue(kinds[tuple] > 500 and kinds[NONE] > 15, kinds)

    def test_words_changed(self):
        draw = random.Random(483)
        kinds = self.count_changed(draw, 120, lambda text: text.split(" "), " ".join, WORDS)
        self.assertTrue(kinds[tuple] > 500 and kinds[NONE] > 50, kinds)

    def test_lines_changed(self):
        draw = random.Random(484)
        kinds = self.count_changed(draw, 120, lambda text: text.split("\n"), "\n".join, LINES)
        self.assertTrue(kinds[tuple] > 500 and kinds[NONE] > 50 and kinds[int] > 20, kinds)

    def count_changed(self, draw, times, apart, together, more):
        """Check texts with one to three changes, and count how many have no fault, a bad text, a bad rule."""
        kinds = {}
        for base in BASES:
            for time in range(times):
                row = apart(text_of_style(base, drawn_any_rules(draw, base)))
                for change in range(draw.randint(1, 3)):
                    row = changed_row(draw, row, more) if row else row
                kind = self.check(together(row)).__class__
                kinds[kind] = kinds.get(kind, 0) + 1
        return kinds


if __name__ == "__main__":
    unittest.main()
