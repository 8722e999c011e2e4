"""The whole program: its parts together, calls by names, the order of refusals, and the document's examples."""

import copy
import doctest
import pathlib
import random
import re
import unittest

from shortspans import deciding, digits, entries, readers, stretches, styles, texts
from shortspans.deciding import lean, mended, misread
from shortspans.entries import entry_text, read_entry
from shortspans.errors import (BadBase, BadDigits, BadEntry, BadManner, BadName, BadNumber, BadRange, BadReader,
                               BadRule, BadText, Missing, NothingLeft, OtherBase, TooMany)
from shortspans.index import Index, restyled, tried
from shortspans.readers import fewest
from shortspans.styles import Style
from shortspans.texts import read_style, style_text
from tests.entry_search import MANNERS, drawn_entry, pages_of
from tests.helper import SHORT, index_of
from tests.search import READERS, drawn_range, drawn_style, expected, text_of

ALL = ((), ("all",))
NEAR = ((("near", 1),), ("last", 1))
PAGES = Style(10, ((("ends", "00"),), ("all",)), ((("length", 1, 2),), ("all",)), ((), ("changed", 2)))


def drawn_index(draw, style, manner):
    index = Index(style, manner=manner)
    for name in draw.sample(("a", "maps", "atlas", "z" * 20, "globe", "sea"), draw.randint(1, 5)):
        index[name] = drawn_entry(draw, style.base, draw.randint(1, 12), draw.randint(1, 5))
        for times in range(3):
            first = draw.randint(1, 400)
            index.note(name, first, draw.choice((None, first + draw.randint(1, 50))))
        index.strike(name, 100, 110)
        if name not in index:
            index.note(name, 5)
    return index


def fewest_digits(index, reader):
    """How many digits stand in the text if each tail has no more than the reader needs."""
    base, added = index.style.base, 0
    for name in index.names():
        ahead = None
        for item in index[name]:
            first, second = item if isinstance(item, tuple) else (item, None)
            alone = index.manner == "full" or ahead is None
            added += len(text_of(base, first)) if alone else fewest(reader, base, ahead, first)
            added += 0 if second is None else fewest(reader, base, first, second)
            ahead = first if second is None else second
    return added


class Together(unittest.TestCase):
    def check_read_back(self, index, reader):
        lines = index.text().split("\n")
        self.assertEqual(len(lines), len(index))
        for name, line in zip(index.names(), lines):
            head, colon, text = line.partition(": ")
            self.assertEqual(head, name)
            entry = read_entry(index.style.base, reader, index.manner, text)
            self.assertEqual(entry, index[name])
            self.assertEqual(pages_of(entry), pages_of(index[name]))

    def test_from_a_text_to_pages(self):
        draw = random.Random(501)
        for times in range(50):
            drawn = drawn_style(draw, draw.choice((2, 3, 10)), 3, draw.randint(1, 5))
            style = read_style(style_text(drawn))
            self.assertEqual(style, drawn)
            for reader in READERS:
                fit = mended(style, reader)
                self.assertIsNone(misread(fit, reader))
                for manner in MANNERS:
                    index = drawn_index(draw, fit, manner)
                    self.check_read_back(index, reader)
                    text, cost = index.text(), index.cost()
                    self.assertEqual(tried(index, lambda held: restyled(held, lean(fit))), text)
                    self.assertEqual(tried(index, lambda held: restyled(held, read_style(style_text(fit)))), text)
                    index.style = Style(fit.base, ALL)
                    self.assertLessEqual(cost, index.cost())
                    index.undo()
                    self.assertGreaterEqual(cost, fewest_digits(index, reader))
                    self.assertEqual((index.text(), index.style), (text, fit))

    def test_cost_of_all_and_of_the_fewest(self):
        draw = random.Random(502)
        for manner in MANNERS:
            for times in range(10):
                index = drawn_index(draw, Style(10, ((), ("changed", 1))), manner)
                # For "replace" this style keeps the fewest digits.
                self.assertEqual(index.cost(), fewest_digits(index, "replace"))


class Session(unittest.TestCase):
    """The examples of the document and of the README."""

    def test_readme(self):
        text = (pathlib.Path(__file__).resolve().parent.parent / "README.md").read_text(encoding="utf-8")
        # Each example ends at a fence, which is no part of what is told.
        session = doctest.DocTestParser().get_doctest(text.replace("```", ""), {}, "README.md", "README.md", 0)
        self.assertGreater(len(session.examples), 15)
        told = []
        runner = doctest.DocTestRunner(verbose=False)
        runner.run(session, out=told.append)
        self.assertEqual((runner.failures, told), (0, []))

    def test_entries(self):
        pages = Style(10, ((("ends", "00"),), ("all",)), ((("length", 1, 2),), ("all",)), ((), ("changed", 2)))
        self.assertEqual((entry_text(pages, "running", (1101, (1234, 1237), 1240)),
                          read_entry(10, "replace", "running", "1101, 234-37, 40")),
                         ("1101, 234-37, 40", (1101, (1234, 1237), 1240)))

    def test_index(self):
        index = Index(Style(10, ((), ("changed", 1))))
        index.note("maps", 1234, 1237)
        index.note("maps", 1238)
        index.strike("maps", 1235)
        self.assertEqual((index["maps"], index.text(), index.cost()), ((1234, (1236, 1238)), "maps: 1234, 1236-8", 9))

    def test_texts(self):
        style = read_style("base 10\nlast 1 when near 1 ends 0\nchanged 2")
        self.assertEqual((style.rules, style_text(style)),
                         (((((("near", 1), ("ends", "0")), ("last", 1)), ((), ("changed", 2)))),
                          "base 10\nlast 1 when near 1 ends 0\nchanged 2"))

    def test_numbers_and_styles(self):
        told = [digits.changed(10, 199, 201), digits.near(10, 199, 201), digits.changed(10, 96, 117),
                digits.near(10, 96, 117)], digits.digits(2, 10)
        self.assertEqual(told, ([3, 1, 3, 2], "1010"))
        told = ([PAGES(1100, 1103), PAGES(96, 117), PAGES(1234, 1237), PAGES(199, 201)], PAGES.rule_of(1234, 1237),
                len(PAGES))
        self.assertEqual(told, (["1100-1103", "96-117", "1234-37", "199-201"], 2, 3))

    def test_readers_and_decisions(self):
        self.assertEqual([readers.completed(*row) for row in (
            ("replace", 10, 1234, "7"), ("replace", 10, 1234, "1"), ("next", 10, 1234, "1"),
            ("next", 10, 1234, "0200"))], [1237, None, 1241, 10200])
        years = Style(10, ((), ("last", 2)))
        told = (misread(years, "replace"), misread(years, "next"), deciding.wasted(years, "next"),
                mended(years, "next").rules)
        self.assertEqual(told, ((1, 100), (1, 102), (1, 10), (((), ("changed", 2)),)))
        self.assertEqual((deciding.needless(PAGES), len(lean(PAGES))), ((1,), 2))
        told = stretches.stretches(PAGES, 1195, 2100), stretches.total(PAGES, 1195, 2100)
        self.assertEqual(told, (((1199, 2, 2), (1999, 2, 3), (2100, 2, 4)), 2812))


CALLS = (
    (digits.digits, {"base": 10, "number": 120}), (digits.number_of, {"base": 10, "text": "120"}),
    (digits.length, {"base": 2, "number": 120}), (digits.changed, {"base": 10, "first": 96, "second": 117}),
    (digits.near, {"base": 10, "first": 96, "second": 117}), (styles.is_rule, {"base": 10, "value": NEAR}),
    (Style.of, {"base": 10, "rules": [NEAR, ALL]}), (PAGES.rule_of, {"first": 1234, "second": 1237}),
    (PAGES.kept, {"first": 1234, "second": 1237}), (PAGES.tail, {"first": 1234, "second": 1237}),
    (PAGES, {"first": 1234, "second": 1237}), (PAGES.without, {"number": 1}), (PAGES.put, {"number": 1, "rule": NEAR}),
    (readers.completed, {"reader": "next", "base": 10, "first": 1234, "tail": "1"}),
    (readers.fewest, {"reader": "next", "base": 10, "first": 96, "second": 117}),
    (readers.is_right, {"style": PAGES, "reader": "next", "first": 96, "second": 117}),
    (deciding.first_range, {"style": PAGES, "number": 1}), (deciding.misread, {"style": SHORT, "reader": "next"}),
    (deciding.wasted, {"style": PAGES, "reader": "next"}), (deciding.misread_by, {"style": PAGES, "reader": "next"}),
    (deciding.parting, {"one": PAGES, "other": SHORT}), (deciding.longer_at, {"one": PAGES, "other": SHORT}),
    (deciding.never_longer, {"one": PAGES, "other": SHORT}), (deciding.needless, {"style": PAGES}),
    (deciding.lean, {"style": PAGES}), (deciding.mended, {"style": PAGES, "reader": "next"}),
    (stretches.stretches, {"style": PAGES, "first": 1195, "most": 2100}),
    (stretches.total, {"style": PAGES, "first": 1195, "most": 2100}), (entries.need_entry, {"value": (5, (6, 7))}),
    (entries.entry_text, {"style": PAGES, "manner": "running", "entry": (5, (6, 7), 100)}),
    (entries.read_entry, {"base": 10, "reader": "next", "manner": "running", "text": "5, 6-7, 100"}),
    (texts.style_text, {"style": PAGES}), (texts.read_style, {"text": "base 10\nlast 1 when near 1\nall"}),
)
INDEX_CALLS = (
    ("note", {"name": "maps", "first": 5, "second": 9}), ("note", {"name": "maps", "first": 5}),
    ("note", {"name": "new", "first": 5, "second": None}), ("strike", {"name": "maps", "first": 1102, "second": 1236}),
    ("strike", {"name": "maps", "first": 1101}), ("forget", {"name": "maps"}), ("names", {}), ("text", {}),
    ("cost", {}), ("undo", {}), ("trial", {}),
)
ERRORS = (
    (BadBase, ("value",)), (BadNumber, ("value",)), (BadDigits, ("value",)), (BadRange, ("value",)),
    (BadRule, ("place",)), (BadReader, ("value",)), (BadManner, ("value",)), (BadEntry, ("place",)),
    (BadName, ("value",)), (BadText, ("line", "word")), (OtherBase, ()), (TooMany, ("most",)), (Missing, ("name",)),
    (NothingLeft, ()),
)


def index_here():
    return index_of({"maps": (1101, (1234, 1237))}, PAGES)


class Called(unittest.TestCase):
    def test_by_names(self):
        for call, named in CALLS:
            told = call(*named.values())
            turned = dict(reversed(list(named.items())))
            for again in (call(**named), call(**turned), call(*named.values())):
                self.assertEqual(again, told)
                self.assertIs(again.__class__, told.__class__)

    def test_index_by_names(self):
        for name, named in INDEX_CALLS:
            found = []
            for index, way in ((index_here(), 0), (index_here(), 1), (index_here(), 2)):
                call = getattr(index, name)
                told = (call(*named.values()) if way == 0 else call(**named) if way == 1 else
                        call(**dict(reversed(list(named.items())))))
                found.append((told if name != "trial" else None, index.text(), index.names()))
                self.assertTrue(told is None or name in ("names", "text", "cost", "trial"))
            self.assertEqual([found[0]] * 3, found)
        for index in (Index(style=PAGES, manner="running"), Index(manner="running", style=PAGES)):
            self.assertEqual(index, Index(PAGES, manner="running"))
        self.assertEqual(tried(function=len, index=index_here()), 1)
        self.assertEqual(restyled(style=SHORT, index=index_here()), restyled(index_here(), SHORT))

    def test_errors_by_names(self):
        for error, fields in ERRORS:
            named = dict(zip(fields, (3, 4)))
            for made in (error(*named.values()), error(**named)):
                self.assertEqual([getattr(made, field) for field in fields], list(named.values()))

    def test_arguments_stay_and_results_are_no_lists(self):
        for call, named in CALLS:
            ahead = copy.deepcopy({name: named[name] for name in named if not isinstance(named[name], Style)})
            held = [(value, value.base, value.rules) for value in named.values() if isinstance(value, Style)]
            told = call(**named)
            self.assertEqual({name: named[name] for name in ahead}, ahead)
            self.assertEqual([(value, value.base, value.rules) for value, base, rules in held], held)
            self.assertIsInstance(told, (str, int, tuple, Style, None.__class__))
        rows = [NEAR, ALL]
        style = Style.of(10, rows)
        rows.clear()
        self.assertEqual(style.rules, (NEAR, ALL))

    def test_refusals_in_order(self):
        index = index_here()
        for error, call in (
                (BadBase, lambda: read_entry(1, "x", "x", 5)), (BadReader, lambda: read_entry(10, "x", "x", 5)),
                (BadManner, lambda: read_entry(10, "next", "x", 5)),
                (BadText, lambda: read_entry(10, "next", "full", 5)),
                (BadManner, lambda: entry_text(PAGES, "x", ())), (BadEntry, lambda: entry_text(PAGES, "full", ())),
                (BadName, lambda: index.__setitem__("X", ())), (BadEntry, lambda: index.__setitem__("x", ())),
                (BadName, lambda: index.note("X", 0)), (BadNumber, lambda: index.note("x", 0)),
                (BadRange, lambda: index.note("x", 0, 0)), (BadName, lambda: index.strike("X", 0)),
                (BadNumber, lambda: index.strike("x", 0)), (BadRange, lambda: index.strike("x", 2, 1)),
                (Missing, lambda: index.strike("x", 1, 2)), (Missing, lambda: index["X"]),
                (Missing, lambda: index.forget([])), (BadText, lambda: read_style("base 10\nx\nall when near 1")),
                (BadRule, lambda: read_style("base 10\nall\nall when near 1")),
                (BadReader, lambda: readers.completed("x", 1, 0, "")),
                (BadBase, lambda: readers.fewest("next", 1, 2, 1)),
                (BadReader, lambda: readers.is_right(PAGES, "x", 2, 1)), (BadReader, lambda: mended(PAGES, "x")),
                (BadNumber, lambda: PAGES.put(3, None)), (BadRule, lambda: PAGES.put(2, NEAR)),
                (BadRule, lambda: ((), ("all", 1)) + PAGES),
                (OtherBase, lambda: deciding.parting(PAGES, Style(9, ALL))),
                (BadNumber, lambda: stretches.total(PAGES, 0, 0))):
            with self.assertRaises(error):
                call()
        self.assertEqual(index, index_here())

    def test_a_form_stands_in_each_text(self):
        """What a style writes of a range is what stands in an entry and in an index, in both manners."""
        draw = random.Random(503)
        for times in range(60):
            style = drawn_style(draw, draw.choice((2, 7, 10)), 6, draw.randint(1, 8))
            pair = drawn_range(draw, style.base, 5)
            for manner in MANNERS:
                self.assertEqual(entry_text(style, manner, (pair,)), style(*pair))
                self.assertEqual(style(*pair), expected(style, *pair)[3])
                index = Index(style, manner=manner)
                index["a"] = (pair,)
                self.assertEqual(index.text(), "a: " + style(*pair))
                self.assertTrue(re.fullmatch("a: [0-9]+-[0-9]+", index.text()))


if __name__ == "__main__":
    unittest.main()
