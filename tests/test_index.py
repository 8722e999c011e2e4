"""The class Index: names and their entries, what is refused, its text, its cost, and when two are equal."""

import random
import unittest

from shortspans.errors import (BadEntry, BadManner, BadName, BadNumber, BadRange, Missing, OtherBase, SpanError,
                               TooMany)
from shortspans.index import Index, restyled, tried
from shortspans.styles import Style
from tests.entry_search import MANNERS, drawn_entry, text_of_entry
from tests.helper import (BASES, GREAT, NO_INTEGERS, NO_MANNERS, NO_NUMBERS, NO_RANGES, SHORT, Agreeing, Thing,
                          index_of, nested, refused, refused_range, told_plainly)
from tests.search import drawn_style, text_of

PAGES = Style(10, ((("ends", "00"),), ("all",)), ((("length", 1, 2),), ("all",)), ((), ("changed", 2)))
ODD = tuple(range(1, 100, 2))
NO_NAMES = tuple([value for value in NO_INTEGERS if value != "all"]) + (
    0, 1, -1, "a b", "a1", "1a", "Maps", "mapS", "a\n", "\na", "\n", "a-b", "a_b", "a.", "a:", "a,b", " maps", "maps ",
    "a" * 21, "a" * 20000, "\u00e9", "stra\u00dfe", "\u0430", "{", "`", "@", "[", b"maps", ["maps"], ("maps",),
    {"maps": (1,)}, ("m", "a"), nested(50),
)
NO_NAMES_HERE = NO_NAMES + ("all", "map", "mapsa", "b", "z" * 20)


class Pair(tuple):
    """A tuple of a caller's own."""


def seen(index):
    """All that can be asked of an index."""
    return index.style, index.manner, index.names(), [index[name] for name in index.names()], len(index), index.text()


class Asked(unittest.TestCase):
    def test_new(self):
        for style in (SHORT, PAGES):
            for index, manner in ((Index(style), "full"), (Index(style, manner="full"), "full"),
                                  (Index(style=style, manner="running"), "running"),
                                  (Index(manner="running", style=style), "running")):
                self.assertEqual(seen(index), (style, manner, (), [], 0, ""))
                self.assertIs(index.style, style)
                self.assertEqual(index.cost(), 0)
        with self.assertRaises(TypeError):
            Index(SHORT, "full")
        with self.assertRaises(TypeError):
            Index()

    def test_properties(self):
        index = Index(SHORT)
        index.style = PAGES
        self.assertIs(index.style, PAGES)
        with self.assertRaises(AttributeError):
            index.manner = "running"
        self.assertEqual(index.manner, "full")

    def test_other_base(self):
        for base in BASES:
            index = index_of({"maps": (5,)}, Style(base, ((), ("all",))))
            for other in BASES:
                style = Style(other, ((), ("last", 1)))
                if other == base:
                    index.style = style
                    self.assertIs(index.style, style)
                    continue
                ahead = seen(index)
                for call in (lambda: setattr(index, "style", style), lambda: restyled(index, style)):
                    with self.assertRaises(OtherBase):
                        call()
                self.assertEqual(seen(index), ahead)

    def test_names(self):
        index = Index(SHORT)
        for at, name in enumerate(("maps", "z", "a", "mapsa", "map", "b" * 20, "abcdefghijklmnopqrst", "uvwxyz")):
            self.assertNotIn(name, index)
            index[name] = (at + 1,)
            self.assertIn(name, index)
            self.assertEqual((index[name], len(index)), ((at + 1,), at + 1))
        told = index.names()
        self.assertIs(told.__class__, tuple)
        self.assertEqual(told, ("a", "abcdefghijklmnopqrst", "b" * 20, "map", "maps", "mapsa", "uvwxyz", "z"))
        index.forget("map")
        self.assertEqual(index.names(), ("a", "abcdefghijklmnopqrst", "b" * 20, "maps", "mapsa", "uvwxyz", "z"))
        index.forget(name="a")
        self.assertNotIn("a", index)
        self.assertEqual(len(index), 6)

    def test_entries_stay_as_passed(self):
        index = Index(SHORT)
        for entry in ((1, 2, 3), (1, (2, 3), 4), ((1, 2), (3, 4)), (GREAT,), ((1, GREAT),), ODD, tuple(range(1, 51))):
            index["maps"] = entry
            index["other"] = (7, 8)
            self.assertEqual(index["maps"], entry)
            self.assertEqual(index["other"], (7, 8))
        index["maps"] = Pair((1, Pair((2, 3)), (4, 9)))
        self.assertEqual(index["maps"], (1, (2, 3), (4, 9)))
        self.assertTrue(told_plainly(index["maps"]))

    def test_in(self):
        index = index_of({"maps": (5,)})
        for value in NO_NAMES_HERE + (Thing(), Agreeing(), {"maps": (5,)}, index):
            self.assertIs(value in index, False)
        self.assertIs("maps" in index, True)

    def test_not_iterated_over(self):
        with self.assertRaises(TypeError):
            iter(index_of({"maps": (5,)}))
        with self.assertRaises(TypeError):
            list(Index(SHORT))


class Refused(unittest.TestCase):
    def test_manners(self):
        for manner in NO_MANNERS:
            refused(self, BadManner, "value", manner, Index, SHORT, manner=manner)
        with self.assertRaises(BadManner):
            Index(SHORT, manner=Agreeing())

    def test_names(self):
        index = index_of({"maps": (5, 7)})
        ahead = seen(index)
        for name in NO_NAMES:
            for entry in ((5,), (), None, (5, 5)):
                refused(self, BadName, "value", name, index.__setitem__, name, entry)
            for numbers in ((5,), (5, 6), (6, 5), (0,), (None,), (None, None), ("5", "6")):
                refused(self, BadName, "value", name, index.note, name, *numbers)
                refused(self, BadName, "value", name, index.strike, name, *numbers)
        self.assertEqual(seen(index), ahead)

    def test_missing(self):
        index = index_of({"maps": (5, 7)})
        ahead = seen(index)
        for name in NO_NAMES_HERE:
            refused(self, Missing, "name", name, index.__getitem__, name)
            refused(self, Missing, "name", name, index.forget, name)
            refused(self, Missing, "name", name, index.forget, name=name)
        for value in (Agreeing(), Thing()):
            with self.assertRaises(Missing) as caught:
                index[value]
            self.assertIs(caught.exception.name, value)
        for numbers in ((5,), (5, 6), (5, None)):
            refused(self, Missing, "name", "map", index.strike, "map", *numbers)
        with self.assertRaises(KeyError):
            index["map"]
        self.assertEqual(seen(index), ahead)

    def test_entries(self):
        index = index_of({"maps": (5, 7)})
        ahead = seen(index)
        for name in ("maps", "map"):
            for value in (None, (), [5], 5, "5", tuple(range(1, 52)), {5: 6}, set()):
                refused(self, BadEntry, "place", None, index.__setitem__, name, value)
            for value, place in (((None,), 0), ((5, True), 1), ((5, (7, 6)), 1), ((5, 6, 6), 2), ((5, [6, 7]), 1)):
                refused(self, BadEntry, "place", place, index.__setitem__, name, value)
        self.assertEqual(seen(index), ahead)

    def test_numbers_and_ranges(self):
        index = index_of({"maps": ODD})
        ahead = seen(index)
        for name in ("maps", "map"):
            for call in (index.note, index.strike):
                for number in NO_NUMBERS:
                    refused(self, BadNumber, "value", number, call, name, number)
                    refused(self, BadNumber, "value", number, call, name, number, None)
                    refused(self, BadNumber, "value", number, call, first=number, name=name)
                for pair in NO_RANGES:
                    if pair[1] is not None:
                        refused_range(self, pair, call, name, *pair)
                with self.assertRaises(BadRange):
                    call(name, second=5, first=5)
        self.assertEqual(seen(index), ahead)

    def test_too_many(self):
        index = index_of({"maps": ODD, "wide": ODD[:-1] + ((101, 110),)})
        ahead = seen(index)
        for call in (lambda: index.note("maps", 101), lambda: index.note("maps", 1000, 2000),
                     lambda: index.strike("wide", 105), lambda: index.note("wide", 112, 113)):
            with self.assertRaises(TooMany) as caught:
                call()
            self.assertEqual(caught.exception.most, 50)
            self.assertNotIsInstance(caught.exception, SpanError)
            self.assertEqual(seen(index), ahead)
        # The name, the numbers and whether the name is there come ahead of it.
        for error, call in ((BadName, lambda: index.strike("Wide", 105)), (BadNumber, lambda: index.note("maps", -1)),
                            (BadRange, lambda: index.strike("wide", 105, 105)),
                            (Missing, lambda: index.strike("wid", 105))):
            with self.assertRaises(error):
                call()
        index.note("maps", 2)
        self.assertEqual((len(index["maps"]), index["maps"][0]), (49, (1, 3)))
        index.note("maps", 101)
        self.assertEqual(len(index["maps"]), 50)


class Written(unittest.TestCase):
    def check(self, index):
        style, manner = index.style, index.manner
        text = "\n".join(name + ": " + text_of_entry(style, manner, index[name]) for name in sorted(index.names()))
        self.assertEqual(index.text(), text)
        self.assertEqual(index.cost(), len([sign for sign in text if sign in "0123456789"]))

    def test_known(self):
        entries = {"maps": (1101, (1234, 1237), 1240), "atlas": ((96, 117),), "z": (5,)}
        for manner, line, cost in (("full", "1101, 1234-37, 1240", 20), ("running", "1101, 234-37, 40", 17)):
            index = index_of(entries, PAGES, manner)
            self.assertEqual(index.text(), "atlas: 96-117\nmaps: " + line + "\nz: 5")
            self.assertEqual(index.cost(), cost)
            self.check(index)
        self.assertEqual((Index(PAGES).text(), Index(PAGES).cost()), ("", 0))
        self.assertEqual((index_of({"a": (5,)}).text(), index_of({"a": (5,)}).cost()), ("a: 5", 1))

    def test_drawn(self):
        draw = random.Random(461)
        for base in BASES:
            for manner in MANNERS:
                for times in range(6):
                    index = Index(drawn_style(draw, base, 6, draw.randint(1, 8)), manner=manner)
                    for name in range(draw.randint(0, 8)):
                        name = "".join(draw.choice("abcz") for letter in range(draw.randint(1, 20)))
                        index[name] = drawn_entry(draw, base, draw.choice((1, 2, 5, 50)), 5)
                        self.check(index)

    def test_restyled(self):
        index = index_of({"maps": (1101, (1234, 1237), 1240)})
        self.assertEqual(restyled(index, PAGES), "maps: 1101, 1234-37, 1240")
        self.assertIs(index.style, PAGES)
        self.assertEqual(restyled(style=SHORT, index=index), "maps: 1101, 1234-7, 1240")
        self.assertEqual(tried(index, lambda held: restyled(held, PAGES)), "maps: 1101, 1234-37, 1240")
        self.assertIs(index.style, SHORT)
        index.undo()
        self.assertIs(index.style, PAGES)

    def test_great(self):
        index = index_of({"a": (GREAT, (GREAT + 1, GREAT + 10))})
        self.assertEqual(index.text(), "a: " + text_of(10, GREAT) + ", " + text_of(10, GREAT + 1) + "-10")
        self.assertEqual(index.cost(), 2002)


class Equal(unittest.TestCase):
    def test_equal(self):
        one = index_of({"maps": (1, 2), "other": (5,)})
        other = index_of({"other": (5,), "maps": (1, 2)}, Style(10, ((), ("changed", 1))))
        self.assertIs(one == other, True)
        self.assertIs(one != other, False)
        self.assertIs(one == one, True)
        self.assertIs(Index(PAGES) == Index(Style.of(10, PAGES.rules)), True)
        # What was done and undone before does not count.
        other["third"] = (7,)
        other.style = PAGES
        self.assertIs(one == other, False)
        other.undo()
        self.assertIs(one == other, False)
        other.undo()
        self.assertIs(one == other, True)
        other.note("other", 6)
        other.strike("other", 6)
        self.assertIs(other == one, True)

    def test_other_ones(self):
        entries = {"maps": (1, 2), "other": (5,)}
        one = index_of(entries)
        for other in (index_of(entries, PAGES), index_of(entries, SHORT, "running"), index_of({"maps": (1, 2)}),
                      Index(SHORT),
                      index_of({**entries, "maps": ((1, 2),)}), index_of({**entries, "other": (5, 6)}),
                      index_of({**entries, "third": (5,)}), index_of({"maps": (5,), "other": (1, 2)}),
                      index_of(entries, Style(9, ((), ("changed", 1)))), *NO_NAMES, entries, SHORT, Thing(),
                      one.text()):
            self.assertIs(one == other, False)
            self.assertIs(one != other, True)


if __name__ == "__main__":
    unittest.main()
