"""note, strike and += held against sets of pages, and undo and trials against what was there ahead."""

import random
import time
import unittest

from shortspans.errors import BadName, Missing, NothingLeft, OtherBase, SpanError, TooMany
from shortspans.index import Index, restyled, tried
from shortspans.styles import Style
from tests.entry_search import MANNERS, drawn_entry, entry_with, pages_of
from tests.helper import GREAT, SHORT, index_of, told_plainly
from tests.search import drawn_style

ALL = ((), ("all",))
LONG = Style(10, ALL)
ODD = tuple(range(1, 100, 2))
SECONDS = 20


def entries_of(index):
    return {name: index[name] for name in index.names()}


def seen(index):
    return index.style, index.manner, entries_of(index), len(index), index.text()


def undone_all(index):
    """What is seen at each step back, down to the first one."""
    found = [seen(index)]
    try:
        while True:
            index.undo()
            found.append(seen(index))
    except NothingLeft:
        return found


def changed_entries(entries, name, pages):
    """The entries with the pages of one name, or None if they make too many items."""
    entry = entry_with(pages)
    if len(entry) > 50:
        return None
    found = {each: entries[each] for each in entries if each != name}
    return {**found, name: entry} if entry else found


class Known(unittest.TestCase):
    def test_document(self):
        index = Index(SHORT)
        index.note("maps", 1234, 1237)
        index.note("maps", 1238)
        index.strike("maps", 1235)
        self.assertEqual((index["maps"], index.text(), index.cost()), ((1234, (1236, 1238)), "maps: 1234, 1236-8", 9))

    def check(self, ahead, way, numbers, told):
        for named in (False, True):
            index = index_of({"maps": ahead} if ahead else {})
            call = index.note if way == "note" else index.strike
            if named:
                second = {"second": numbers[1]} if len(numbers) > 1 else {}
                self.assertIsNone(call(first=numbers[0], name="maps", **second))
            else:
                self.assertIsNone(call("maps", *numbers))
            self.assertEqual(entries_of(index), {"maps": told} if told else {})
            self.assertTrue(told is None or told_plainly(index["maps"]))

    def test_note(self):
        for ahead, numbers, told in (
                (None, (5,), (5,)), (None, (5, None), (5,)), (None, (5, 6), ((5, 6),)), (None, (5, 9), ((5, 9),)),
                ((5,), (5,), (5,)), ((5,), (6,), ((5, 6),)), ((5,), (4,), ((4, 5),)), ((5,), (7,), (5, 7)),
                ((5,), (3,), (3, 5)), ((5, 7), (6,), ((5, 7),)), ((5, 7), (1,), (1, 5, 7)), ((5, 7), (9,), (5, 7, 9)),
                (((5, 9),), (7,), ((5, 9),)), (((5, 9),), (5,), ((5, 9),)), (((5, 9),), (9,), ((5, 9),)),
                (((5, 9),), (10,), ((5, 10),)), (((5, 9),), (11,), ((5, 9), 11)), (((5, 9),), (4,), ((4, 9),)),
                (((5, 9),), (8, 12), ((5, 12),)), (((5, 9),), (1, 5), ((1, 9),)), (((5, 9),), (1, 4), ((1, 9),)),
                (((5, 9),), (1, 3), ((1, 3), (5, 9))), (((5, 9),), (6, 7), ((5, 9),)), (((5, 9),), (1, 20), ((1, 20),)),
                ((1, 3, (5, 7), 9), (2, 8), ((1, 9),)), ((1, 3, (5, 7), 9), (4, 5), (1, (3, 7), 9)),
                ((1, 2, 3), (3,), ((1, 3),)), ((1, (2, 3), (4, 5), 9, 10), (20,), ((1, 5), (9, 10), 20)),
                ((1, 2), (1, 2), ((1, 2),))):
            self.check(ahead, "note", numbers, told)

    def test_strike(self):
        for ahead, numbers, told in (
                ((5,), (5,), None), ((5,), (5, None), None), ((5,), (6,), (5,)), ((5,), (4,), (5,)),
                ((5,), (1, 9), None), ((5, 7), (6,), (5, 7)), ((5, 7), (5,), (7,)), ((5, 7), (1, 6), (7,)),
                (((5, 9),), (7,), ((5, 6), (8, 9))), (((5, 9),), (6,), (5, (7, 9))), (((5, 9),), (8,), ((5, 7), 9)),
                (((5, 9),), (5,), ((6, 9),)), (((5, 9),), (9,), ((5, 8),)), (((5, 9),), (5, 9), None),
                (((5, 9),), (6, 8), (5, 9)), (((5, 9),), (1, 8), (9,)), (((5, 9),), (6, 20), (5,)),
                (((5, 7),), (6,), (5, 7)), (((5, 6),), (5,), (6,)), (((5, 6),), (6,), (5,)),
                ((1, (3, 6), 8, (10, 20)), (5, 12), (1, (3, 4), (13, 20))), ((1, (3, 6), 8), (2, 7), (1, 8)),
                ((1, 2, 3), (9,), ((1, 3),)), ((1, 2, 3), (2,), (1, 3)), ((1, 2, (3, 5), 6), (5,), ((1, 4), 6)),
                ((1, 2, 3), (1, 3), None)):
            self.check(ahead, "strike", numbers, told)

    def test_to_fifty_items(self):
        index = index_of({"maps": ODD[:-1], "wide": tuple(range(1, 97, 2)) + ((100, 110),)})
        index.note("maps", 99)
        index.strike("wide", 105)
        self.assertEqual([len(index["maps"]), len(index["wide"])], [50, 50])
        for call in (lambda: index.note("maps", 101), lambda: index.strike("wide", 108)):
            self.assertRaises(TooMany, call)
        index.note("maps", 100)
        index.strike("wide", 110)
        index.strike("wide", 1, 200)
        self.assertEqual(entries_of(index), {"maps": ODD[:-1] + ((99, 100),)})
        # Items that follow one another directly are one item behind a note.
        index["maps"] = tuple(range(1, 51))
        index.note("maps", 60)
        self.assertEqual(index["maps"], ((1, 50), 60))

    def test_great(self):
        started = time.monotonic()
        index = Index(SHORT)
        for great in (10 ** 40, 10 ** 500, GREAT):
            index.note("maps", 5, great)
            index.strike("maps", great // 2)
            self.assertEqual(index["maps"], ((5, great // 2 - 1), (great // 2 + 1, great)))
            index.strike("maps", 7, great - 1)
            self.assertEqual(index["maps"], ((5, 6), great))
            index.note("other", great)
            index += index
            index.strike("maps", 1, great)
            self.assertNotIn("maps", index)
        for at in range(300):
            index.note("wide", 1 + at * 10 ** 40, (at + 1) * 10 ** 40)
            index.strike("wide", 1, at + 2)
        self.assertEqual(index["wide"], ((302, 300 * 10 ** 40),))
        self.assertLess(time.monotonic() - started, SECONDS)


class Adding(unittest.TestCase):
    def test_names(self):
        one = index_of({"a": (1, 2, 3), "b": (5, (7, 9))}, SHORT, "running")
        other = index_of({"b": (4, 5, 10), "c": (1, 2, (3, 4))}, LONG)
        held, ahead = one, seen(other)
        one += other
        self.assertIs(one, held)
        self.assertEqual(entries_of(one), {"a": (1, 2, 3), "b": ((4, 5), (7, 10)), "c": ((1, 4),)})
        self.assertEqual(seen(other), ahead)
        self.assertIs(one.style, SHORT)
        self.assertEqual(one.manner, "running")
        one.undo()
        self.assertEqual(entries_of(one), {"a": (1, 2, 3), "b": (5, (7, 9))})
        # What comes behind changes the one index alone.
        one += other
        other.note("c", 100)
        one.note("c", 50)
        self.assertEqual((one["c"], other["c"]), (((1, 4), 50), ((1, 4), 100)))

    def test_itself(self):
        index = index_of({"a": (1, 2, 3), "b": (5, (6, 9))})
        held = index
        index += index
        self.assertIs(index, held)
        self.assertEqual(entries_of(index), {"a": ((1, 3),), "b": ((5, 9),)})
        index.undo()
        self.assertEqual(entries_of(index), {"a": (1, 2, 3), "b": (5, (6, 9))})

    def test_no_names(self):
        index = index_of({"a": (1, 2, 3)})
        index += Index(SHORT)
        self.assertEqual(entries_of(index), {"a": (1, 2, 3)})
        empty = Index(SHORT)
        empty += index
        self.assertEqual(entries_of(empty), {"a": ((1, 3),)})
        self.assertEqual([len(found[2]) for found in undone_all(empty)], [1, 0])
        self.assertEqual([len(found[2]) for found in undone_all(index)], [1, 1, 0])

    def test_another_base(self):
        index = index_of({"a": (1, 2)}, Style(2, ALL))
        index += index_of({"a": (4,)})
        self.assertEqual(index.text(), "a: 1-10, 100")

    def test_too_many(self):
        one = index_of({"a": ODD, "b": (5,), "d": (7, 8)})
        other = index_of({"b": (7,), "a": (101,), "c": (9,), "e": (1, 2)})
        ahead = [seen(one), seen(other)]
        with self.assertRaises(TooMany) as caught:
            one += other
        self.assertEqual(caught.exception.most, 50)
        self.assertEqual([seen(one), seen(other)], ahead)
        self.assertEqual(len(undone_all(one)), 4)

    def test_no_index(self):
        index = index_of({"a": (5,)})
        for value in (None, 5, (6,), {"a": (6,)}, "a: 6", SHORT):
            with self.assertRaises(TypeError):
                index += value
        self.assertEqual(entries_of(index), {"a": (5,)})


class Walk(unittest.TestCase):
    """Many drawn changes of some names, with a list of the entries and styles as they have to be."""

    names = ("a", "bc", "maps")

    def step(self, draw, most):
        """A drawn change of an index, and the entries behind it, or None if they make too many items."""
        name, way = draw.choice(self.names), draw.randrange(7)
        ahead = self.rows[-1][1]
        pages = pages_of(ahead.get(name, ()))
        if way < 2:
            first = draw.randint(1, most)
            numbers = (first,) if draw.random() < 0.5 else (first, first + draw.randint(1, 8))
            here = pages_of((numbers,) if len(numbers) > 1 else numbers)
            if way == 0:
                return lambda: self.index.note(name, *numbers), changed_entries(ahead, name, pages | here)
            if name in ahead:
                return lambda: self.index.strike(name, *numbers), changed_entries(ahead, name, pages - here)
            return self.step(draw, most)
        if way == 2 and name in ahead:
            return lambda: self.index.forget(name), {each: ahead[each] for each in ahead if each != name}
        if way == 3:
            others = self.names[:draw.randint(0, 3)]
            other = index_of({each: drawn_entry(draw, 10, draw.choice((1, 3, 20)), 2) for each in others})
            other = self.index if draw.random() < 0.3 else other
            told = ahead
            for each in other.names():
                more = pages_of(other[each]) | pages_of(ahead.get(each, ()))
                told = None if told is None else changed_entries(told, each, more)
            return lambda: self.index.__iadd__(other), told
        entry = drawn_entry(draw, 10, draw.choice((1, 2, 5, 30, 50)), 2)
        if way > 4 and most > 100:
            entry = tuple((page, page + 1) if draw.random() < 0.3 else page for page in range(2, 152, 3))
        return lambda: self.index.__setitem__(name, entry), {**ahead, name: entry}

    def check(self):
        style, entries = self.rows[-1]
        self.assertEqual(entries_of(self.index), entries)
        self.assertTrue(all(told_plainly(self.index[name]) for name in entries))
        self.assertEqual(self.index.names(), tuple(sorted(entries)))
        self.assertIs(self.index.style, style)
        self.assertEqual([name in self.index for name in self.names], [name in entries for name in self.names])

    def walk(self, seed, most, steps, backward):
        draw = random.Random(seed)
        self.index, self.rows, refusals = Index(SHORT), [(SHORT, {})], 0
        for step in range(steps):
            if draw.random() < backward:
                if len(self.rows) > 1:
                    self.index.undo()
                    self.rows.pop()
                else:
                    self.assertRaises(NothingLeft, self.index.undo)
            elif draw.random() < 0.1:
                style = draw.choice((SHORT, LONG, drawn_style(draw, 10, 6, 3)))
                self.index.style = style
                self.rows.append((style, self.rows[-1][1]))
            else:
                call, told = self.step(draw, most)
                if told is None:
                    self.assertRaises(TooMany, call)
                    refusals += 1
                else:
                    call()
                    self.rows.append((self.rows[-1][0], told))
            self.check()
        while len(self.rows) > 1:
            self.index.undo()
            self.rows.pop()
            self.check()
        self.assertRaises(NothingLeft, self.index.undo)
        return refusals

    def test_few_pages(self):
        for seed in range(6):
            self.walk(seed, 15, 150, 0.1)

    def test_many_pages(self):
        refusals = sum(self.walk(seed, 150, 400, 0.1) for seed in range(12))
        self.assertGreater(refusals, 10)

    def test_to_and_fro(self):
        for seed in range(6):
            self.walk(seed, 40, 200, 0.5)


class Undo(unittest.TestCase):
    changes = (
        lambda index: index.__setitem__("maps", (5, 6)), lambda index: index.__setitem__("new", (5, 6)),
        lambda index: index.__setitem__("maps", (1, 2, (4, 9))), lambda index: index.forget("maps"),
        lambda index: index.note("maps", 20), lambda index: index.note("maps", 20, 30),
        lambda index: index.note("new", 5), lambda index: index.note("maps", 1), lambda index: index.strike("maps", 1),
        lambda index: index.strike("maps", 1, 99), lambda index: index.strike("maps", 77),
        lambda index: index.__iadd__(index),
        lambda index: index.__iadd__(index_of({"maps": (50,), "new": (5,)})),
        lambda index: index.__iadd__(Index(SHORT)),
        lambda index: setattr(index, "style", LONG), lambda index: setattr(index, "style", SHORT),
        lambda index: restyled(index, LONG), lambda index: setattr(index, "style", index.style),
    )
    refusals = (
        lambda index: index.__setitem__("Maps", (5,)), lambda index: index.__setitem__("maps", (5, 5)),
        lambda index: index.forget("map"), lambda index: index.note("maps", 0), lambda index: index.note("maps", 6, 6),
        lambda index: index.strike("map", 5), lambda index: index.note("odd", 200), lambda index: index.note("9", 9),
        lambda index: index.__iadd__(index_of({"odd": (200,), "maps": (5,)})), lambda index: index.strike("maps", True),
        lambda index: setattr(index, "style", Style(9, ALL)), lambda index: index["map"],
    )

    def start(self):
        return index_of({"maps": (1, 2, (4, 9)), "odd": ODD})

    def test_each_change(self):
        for manner in MANNERS:
            for change in self.changes:
                index = index_of({"maps": (1, 2, (4, 9)), "odd": ODD}, SHORT, manner)
                ahead, style = seen(index), index.style
                change(index)
                self.assertIsNone(index.undo())
                self.assertEqual(seen(index), ahead)
                self.assertIs(index.style, style)
                self.assertEqual(len(undone_all(index)), 3)

    def test_one_after_another(self):
        draw = random.Random(471)
        for times in range(20):
            index = self.start()
            steps = [seen(Index(SHORT)), seen(index_of({"maps": (1, 2, (4, 9))})), seen(index)]
            for change in range(30):
                call = draw.choice(self.changes)
                try:
                    call(index)
                    steps.append(seen(index))
                except Missing:
                    self.assertEqual(seen(index), steps[-1])
                for refusal in draw.sample(self.refusals, 2):
                    if "odd" in index:
                        self.assertRaises((SpanError, Missing, TooMany), refusal, index)
                self.assertEqual(seen(index), steps[-1])
            self.assertEqual(undone_all(index), steps[::-1])
            for again in range(2):
                self.assertRaises(NothingLeft, index.undo)
                self.assertEqual(seen(index), steps[0])

    def test_refused_changes_are_none(self):
        for refusal in self.refusals:
            index = self.start()
            ahead = seen(index)
            self.assertRaises((SpanError, Missing, TooMany), refusal, index)
            self.assertEqual(seen(index), ahead)
            self.assertEqual(len(undone_all(index)), 3)

    def test_nothing_left(self):
        index = Index(SHORT)
        with self.assertRaises(NothingLeft):
            index.undo()
        with self.assertRaises(RuntimeError):
            index.undo()
        index.note("maps", 5)
        index.undo()
        self.assertRaises(NothingLeft, index.undo)
        self.assertEqual(seen(index), seen(Index(SHORT)))


class Lost(Exception):
    """An error of a caller's own."""


class Trials(unittest.TestCase):
    def start(self):
        index = index_of({"maps": (1, 2, (4, 9)), "odd": ODD})
        index.style = LONG
        index.note("new", 7)
        return index

    def check(self, index, ahead):
        self.assertEqual(seen(index), ahead[0])
        self.assertEqual(undone_all(index), ahead)

    def test_each_change(self):
        for change in Undo.changes:
            for undone in (0, 1, 2, 5):  # There are four changes ahead of the trial, and one within it.
                index, ahead = self.start(), undone_all(self.start())
                with index.trial() as held:
                    self.assertIs(held, index)
                    change(index)
                    for step in range(undone):
                        index.undo()
                    held.note("x", 5)
                    held.style = SHORT
                    held.note("y", 5)
                self.check(index, ahead)

    def test_nothing_done(self):
        index, ahead = self.start(), undone_all(self.start())
        with index.trial():
            pass
        self.check(index, ahead)
        with Index(SHORT).trial() as held:
            self.assertEqual(len(held), 0)

    def test_it_goes_on_behind(self):
        index = self.start()
        with index.trial() as held:
            held.note("maps", 100)
            held.forget("odd")
        index.note("maps", 200)
        self.assertEqual(index["maps"], ((1, 2), (4, 9), 200))
        ahead = undone_all(self.start())
        self.assertEqual(undone_all(index)[1:], ahead)

    def test_errors_pass_on(self):
        rows = ((Lost, None), (KeyError, lambda index: index["no"]), (BadName, lambda index: index.note("", 5)),
                (TooMany, lambda index: index.note("odd", 200)), (OtherBase, Undo.refusals[-2]),
                (NothingLeft, lambda index: [index.undo() for step in range(100)]))
        for error, call in rows:
            index, ahead = self.start(), undone_all(self.start())
            thrown = Lost("x")
            with self.assertRaises(error) as caught:
                with index.trial() as held:
                    held.note("maps", 50)
                    held.style = SHORT
                    if call is None:
                        raise thrown
                    call(held)
            self.assertTrue(call is not None or caught.exception is thrown)
            self.check(index, ahead)

    def test_return_and_break(self):
        def told(index):
            with index.trial() as held:
                held.forget("maps")
                return held.text()

        index, ahead = self.start(), undone_all(self.start())
        self.assertEqual(told(index), index_of({"new": (7,), "odd": ODD}, LONG).text())
        for step in range(3):
            with index.trial():
                index.forget("maps")
                if step == 1:
                    break
        self.check(index, ahead)

    def test_within_one_another(self):
        index, ahead = self.start(), undone_all(self.start())
        with index.trial() as outer:
            outer.note("maps", 50)
            middle = seen(outer)
            with outer.trial() as inner:
                self.assertIs(inner, index)
                inner.undo()
                inner.undo()
                inner.note("deep", 9)
                with inner.trial():
                    undone_all(inner)
                    self.assertEqual(len(inner), 0)
                self.assertIn("deep", inner)
            self.assertEqual(seen(outer), middle)
            outer.undo()
            self.assertEqual(seen(outer), ahead[0])
            self.assertRaises(Lost, tried, outer, self.fail_with_changes)
            outer.undo()
            self.assertEqual(seen(outer), ahead[1])
        self.check(index, ahead)

    def fail_with_changes(self, index):
        undone_all(index)
        index.note("deep", 9)
        raise Lost("x")

    def test_when_the_block_begins(self):
        index = self.start()
        trial = index.trial()
        index.note("maps", 77)
        index.style = SHORT
        ahead = seen(index)
        with trial as held:
            held.forget("maps")
        self.assertEqual(seen(index), ahead)

    def test_tried(self):
        index, ahead = self.start(), undone_all(self.start())
        for worth in (None, 5, "x", [1], (2,), {}):
            self.assertIs(tried(index, lambda held: worth), worth)
        self.assertIs(tried(index=index, function=lambda held: held), index)
        self.assertEqual(tried(index, lambda held: (held.forget("odd"), held.cost())[1]),
                         index_of({"maps": (1, 2, (4, 9)), "new": (7,)}, LONG).cost())
        self.assertRaises(Lost, tried, index, self.fail_with_changes)
        self.check(index, ahead)

    def test_another_index_keeps_its_changes(self):
        index, other = self.start(), Index(SHORT)
        with index.trial() as held:
            held.note("maps", 50)
            other += held
        self.assertEqual(other["maps"], ((1, 2), (4, 9), 50))
        self.assertEqual(index["maps"], (1, 2, (4, 9)))


if __name__ == "__main__":
    unittest.main()
