"""The class Style: how one is made, asked, compared and made anew."""

import unittest

from shortspans import styles
from shortspans.errors import BadBase, BadNumber, BadRule
from shortspans.styles import Style
from tests.helper import BASES, NO_BASES, NO_INTEGERS, nested, refused, told_plainly

LAST = ((), ("changed", 2))
ALL = ((), ("all",))
ENDS = ((("ends", "00"),), ("all",))
SHORT = ((("length", 1, 2),), ("all",))
NEAR = ((("near", 1), ("changed", 1, None)), ("last", 1))
RULES = (ENDS, SHORT, LAST)
NO_RULES = NO_INTEGERS + (
    0, 5, (), ((), ("all", 1)), ((), ("last", 0)), ((), ("last", True)), [(), ("all",)], ((("ends", "000"),), ("all",)),
    ((("near", 1),) * 4, ("all",)), nested(48),
)


class Pair(tuple):
    """A tuple of a caller's own."""


class Made(unittest.TestCase):
    def test_constants(self):
        self.assertEqual((styles.MOST_RULES, styles.MOST_CONDITIONS, styles.MOST_SIZE), (8, 3, 6))

    def test_told(self):
        for style in (Style(10, *RULES), Style.of(10, RULES), Style.of(10, list(RULES)),
                      Style.of(base=10, rules=RULES)):
            self.assertIs(style.__class__, Style)
            self.assertEqual(style.base, 10)
            self.assertEqual(style.rules, RULES)
            self.assertIs(style.rules.__class__, tuple)
        for base in BASES:
            self.assertEqual(Style(base, ALL).base, base)

    def test_plain_tuples(self):
        rule = Pair((Pair((Pair(("near", 1)), Pair(("length", 1, None)))), Pair(("last", 1))))
        made = (Style(10, rule, Pair(ALL)), Style.of(10, Pair((rule, ALL))), rule + Style(10, ALL),
                Style(10, ENDS, ALL).put(0, rule))
        for style in made:
            self.assertTrue(told_plainly(style.rules))
            self.assertTrue(told_plainly(style[0]))
            self.assertEqual(style.rules, ((((("near", 1), ("length", 1, None))), ("last", 1)), ALL))

    def test_bases(self):
        for base in NO_BASES:
            refused(self, BadBase, "value", base, Style, base, *RULES)
            refused(self, BadBase, "value", base, Style, base)
            refused(self, BadBase, "value", base, Style, base, None)
            refused(self, BadBase, "value", base, Style.of, base, RULES)
            refused(self, BadBase, "value", base, Style.of, base, ())
            refused(self, BadBase, "value", base, Style.of, base, None)

    def test_how_many(self):
        refused(self, BadRule, "place", None, Style, 10)
        refused(self, BadRule, "place", None, Style, base=10)
        for kind in (list, tuple):
            refused(self, BadRule, "place", None, Style.of, 10, kind(()))
            for many in range(1, 9):
                self.assertEqual(len(Style.of(10, kind((ALL,) * many))), many)
            for many in (9, 10, 50):
                refused(self, BadRule, "place", None, Style.of, 10, kind((ALL,) * many))
                refused(self, BadRule, "place", None, Style.of, 10, kind((None,) * many))
                refused(self, BadRule, "place", None, Style, 10, *kind((ALL,) * many))

    def test_no_rows(self):
        for value in NO_INTEGERS + (0, 1, "abc", dict.fromkeys(RULES), set(RULES), iter(RULES), Style(10, ALL)):
            if not isinstance(value, (list, tuple)):
                refused(self, BadRule, "place", None, Style.of, 10, value)

    def test_first_bad_rule(self):
        for value in NO_RULES:
            refused(self, BadRule, "place", 0, Style, 10, value)
            refused(self, BadRule, "place", 0, Style, 10, value, ALL)
            refused(self, BadRule, "place", 1, Style, 10, ENDS, value, ALL)
            refused(self, BadRule, "place", 1, Style, 10, ENDS, value, value)
            refused(self, BadRule, "place", 1, Style, 10, ENDS, value, ENDS)
            refused(self, BadRule, "place", 7, Style.of, 10, [ALL] * 7 + [value])
        self.assertEqual(len(Style(2, ((("ends", "1"),), ("all",)), ALL)), 2)
        refused(self, BadRule, "place", 0, Style, 2, ((("ends", "2"),), ("all",)), ALL)

    def test_last_rule(self):
        refused(self, BadRule, "place", 0, Style, 10, ENDS)
        refused(self, BadRule, "place", 2, Style, 10, ENDS, ALL, NEAR)
        refused(self, BadRule, "place", 7, Style.of, 10, [ALL] * 7 + [SHORT])
        self.assertEqual(Style(10, ALL, ENDS, ALL, ALL).rules, (ALL, ENDS, ALL, ALL))

    def test_rows_changed_later(self):
        rows = list(RULES)
        style = Style.of(10, rows)
        rows[0] = ALL
        rows.append(ALL)
        self.assertEqual(style.rules, RULES)
        rows.clear()
        self.assertEqual(style, Style(10, *RULES))
        self.assertEqual(style(1100, 1103), "1100-1103")

    def test_rows_are_left_alone(self):
        rows = list(RULES)
        Style.of(10, rows)
        self.assertEqual(rows, list(RULES))

    def test_properties_stay(self):
        style = Style(10, *RULES)
        for name, worth in (("base", 2), ("rules", (ALL,))):
            with self.assertRaises(AttributeError):
                setattr(style, name, worth)
        self.assertEqual(style, Style(10, *RULES))


class Asked(unittest.TestCase):
    def test_len(self):
        for many in range(1, 9):
            self.assertEqual(len(Style(10, *(ALL,) * many)), many)

    def test_item(self):
        style = Style(10, *RULES)
        for number, rule in enumerate(RULES):
            self.assertEqual(style[number], rule)
        for value in NO_INTEGERS + (-1, -2, -3, -4, 3, 4, 8, 10 ** 1000, -(10 ** 1000)):
            refused(self, BadNumber, "value", value, style.__getitem__, value)
        for value in (slice(0, 2), slice(None)):
            with self.assertRaises(BadNumber):
                style[value]

    def test_contains(self):
        style = Style(10, *RULES)
        for rule in RULES:
            self.assertIs(rule in style, True)
            self.assertIs(rule not in style, False)
        for rule in (ALL, NEAR, ((), ("changed", 1)), ((), ("last", 2)), ((("ends", "0"),), ("all",)),
                     ((("length", 1, None),), ("all",)), ((("ends", "00"),), ("changed", 1))):
            self.assertIs(rule in style, False)
        for value in NO_RULES + RULES[0] + (RULES, list(LAST), 10, 0, 2):
            self.assertIs(value in style, False)

    def test_contains_no_rule_that_equals_one(self):
        one = Style(10, ((("length", 1, 1),), ("last", 1)), ((("near", 0),), ("all",)), ((), ("changed", 1)))
        for value in (((), ("changed", True)), ((("near", False),), ("all",)), ((("length", True, 1),), ("last", 1)),
                      ((("length", 1, True),), ("last", 1)), ((("length", 1, 1),), ("last", True))):
            self.assertTrue(value in one.rules)
            self.assertIs(value in one, False)
        for value in one.rules:
            self.assertIs(value in one, True)

    def test_not_iterated(self):
        for call in (iter, list, tuple, sorted):
            with self.assertRaises(TypeError):
                call(Style(10, *RULES))

    def test_equal(self):
        style = Style(10, *RULES)
        for other in (style, Style(10, *RULES), Style.of(10, list(RULES)), ENDS + (SHORT + Style(10, LAST))):
            self.assertIs(style == other, True)
            self.assertIs(other == style, True)
            self.assertIs(style != other, False)
        for other in (Style(9, *RULES), Style(10, *RULES[1:]), Style(10, SHORT, ENDS, LAST),
                      Style(10, ENDS, SHORT, ALL), Style(10, *RULES, LAST)):
            self.assertIs(style == other, False)
            self.assertIs(style != other, True)
        for other in NO_INTEGERS + (10, RULES, (10, RULES), list(RULES)):
            self.assertIs(style == other, False)
            self.assertIs(other == style, False)
            self.assertIs(style != other, True)


class MadeAnew(unittest.TestCase):
    def setUp(self):
        self.style = Style(10, *RULES)

    def tearDown(self):
        self.assertEqual((self.style.base, self.style.rules), (10, RULES))

    def test_ahead(self):
        made = NEAR + self.style
        self.assertIs(made.__class__, Style)
        self.assertEqual((made.base, made.rules), (10, (NEAR,) + RULES))
        self.assertEqual((ALL + made).rules, (ALL, NEAR) + RULES)
        base_two = Style(2, ALL)
        self.assertEqual((((("ends", "01"),), ("all",)) + base_two).base, 2)
        with self.assertRaises(BadRule):
            ((("ends", "02"),), ("all",)) + base_two

    def test_ahead_refused(self):
        full = Style(10, *(ALL,) * 8)
        for rule in (ALL, ENDS):
            refused(self, BadRule, "place", None, full.__radd__, rule)
            with self.assertRaises(BadRule):
                rule + full
        seven = Style(10, *(ALL,) * 7)
        self.assertEqual((ENDS + seven).rules, (ENDS,) + (ALL,) * 7)
        for value in NO_RULES:
            for style in (self.style, full):
                if isinstance(value, tuple):
                    with self.assertRaises(BadRule) as caught:
                        value + style
                    self.assertIs(caught.exception.place.__class__, int)
                    self.assertEqual(caught.exception.place, 0)
                else:
                    with self.assertRaises(TypeError):
                        value + style

    def test_no_other_sums(self):
        for value in (list(ENDS), "x", 5, None, {}, self.style):
            with self.assertRaises(TypeError):
                value + self.style
        with self.assertRaises(TypeError):
            self.style + ENDS

    def test_without(self):
        made = self.style.without(0)
        self.assertIs(made.__class__, Style)
        self.assertEqual((made.base, made.rules), (10, (SHORT, LAST)))
        self.assertEqual(self.style.without(number=1).rules, (ENDS, LAST))
        self.assertEqual(made.without(0).rules, (LAST,))
        for value in NO_INTEGERS + (2, 3, -1, -2, -3, 10 ** 1000):
            refused(self, BadNumber, "value", value, self.style.without, value)
        refused(self, BadNumber, "value", 0, Style(10, ALL).without, 0)
        refused(self, BadNumber, "value", -1, Style(10, ALL).without, number=-1)

    def test_put(self):
        made = self.style.put(1, NEAR)
        self.assertIs(made.__class__, Style)
        self.assertEqual((made.base, made.rules), (10, (ENDS, NEAR, LAST)))
        self.assertEqual(self.style.put(number=0, rule=ALL).rules, (ALL, SHORT, LAST))
        self.assertEqual(self.style.put(2, ALL).rules, (ENDS, SHORT, ALL))
        self.assertEqual(self.style.put(2, LAST), self.style)

    def test_put_refused(self):
        for value in NO_INTEGERS + (3, 4, -1, -3, 10 ** 1000):
            for rule in (ALL, None, ENDS):
                refused(self, BadNumber, "value", value, self.style.put, value, rule)
        for value in NO_RULES:
            for number in range(3):
                refused(self, BadRule, "place", number, self.style.put, number, value)
        for rule in (ENDS, SHORT, NEAR):
            refused(self, BadRule, "place", 2, self.style.put, 2, rule)
            refused(self, BadRule, "place", 0, Style(10, ALL).put, 0, rule)
        refused(self, BadRule, "place", 0, Style(2, ENDS, ALL).put, 0, ((("ends", "2"),), ("all",)))


if __name__ == "__main__":
    unittest.main()
