"""Conditions and rules: what is one, and what is none."""

import unittest

from shortspans.errors import BadBase
from shortspans.styles import is_rule
from tests.helper import BASES, NO_BASES, NO_INTEGERS, Agreeing, Thing, nested, refused

SIZES = (1, 2, 3, 4, 5, 6)
NO_SIZES = NO_INTEGERS + (0, 7, -1, 10, 10 ** 1000)


class Pair(tuple):
    """A tuple of a caller's own."""


class Rules(unittest.TestCase):
    def check(self, expected, value, base=10):
        self.assertIs(is_rule(base, value), expected, (base, value))

    def check_condition(self, expected, condition, base=10):
        self.check(expected, ((condition,), ("all",)), base)
        self.check(expected, ((("near", 0), condition), ("last", 2)), base)

    def check_keep(self, expected, keep):
        for base in (2, 10):
            self.check(expected, ((), keep), base)
            self.check(expected, ((("length", 1, 2),), keep), base)

    def test_keep(self):
        self.check_keep(True, ("all",))
        for word in ("changed", "last"):
            for size in SIZES:
                self.check_keep(True, (word, size))
            for size in NO_SIZES:
                self.check_keep(False, (word, size))
            self.check_keep(False, (word,))
            self.check_keep(False, (word, 1, 2))
            self.check_keep(False, [word, 1])
            self.check_keep(False, (1, word))
        for keep in (("all", 1), ("all", None), ("all", "all"), ["all"], (), "all", ("",), ("All",), ("all ",),
                     ("near", 1), ("length", 1), ("ends", "0"), (b"all",), (("all",),), ("every",), (Thing(),), (1, 1)):
            self.check_keep(False, keep)
        for value in NO_INTEGERS:
            self.check_keep(False, value)
            self.check_keep(False, (value,)) if value != "all" else self.check_keep(True, (value,))
            self.check_keep(False, (value, 1))

    def test_ends(self):
        for base in BASES:
            for one in range(10):
                self.check_condition(one < base, ("ends", str(one)), base)
                for two in range(10):
                    self.check_condition(one < base and two < base, ("ends", str(one) + str(two)), base)
        for text in ("", "000", "1234", " ", "0 ", "-1", "+1", "a", "1\n", "\n", "1_", "\u0661", "\u00b2", "0" * 20000):
            self.check_condition(False, ("ends", text))
        for value in NO_INTEGERS + (0, 5, 10):
            if not isinstance(value, str):
                self.check_condition(False, ("ends", value))
        for condition in (("ends",), ("ends", "0", "1"), ("ends", "00", None), ["ends", "0"], ("Ends", "0"),
                          ("end", "0"), ("0", "ends"), (b"ends", "0"), ("ends", b"0"),
                          ("ends", ("0",)), ("ends", ["0"])):
            self.check_condition(False, condition)

    def test_length_and_changed(self):
        for word in ("length", "changed"):
            for least in range(-1, 9):
                for most in range(-1, 9):
                    self.check_condition(1 <= least <= most <= 6, (word, least, most))
                self.check_condition(1 <= least <= 6, (word, least, None))
            for value in NO_SIZES:
                self.check_condition(value is None, (word, 1, value))
                self.check_condition(False, (word, value, 6))
                self.check_condition(False, (word, value, None))
            for condition in ((word,), (word, 1), (word, 1, 2, 3), (word, 1, 2, None), [word, 1, 2], (word, (1, 2)),
                              (1, 2, word), (word.upper(), 1, 2), (word + " ", 1, 2), (word, "1", "2")):
                self.check_condition(False, condition)

    def test_near(self):
        for most in range(-2, 9):
            self.check_condition(0 <= most <= 6, ("near", most))
        for value in NO_INTEGERS + (7, -1, 10 ** 1000, -(10 ** 1000)):
            self.check_condition(False, ("near", value))
        for condition in (("near",), ("near", 1, 2), ("near", 1, None), ["near", 1], ("Near", 1),
                          ("far", 1), (1, "near")):
            self.check_condition(False, condition)

    def test_other_conditions(self):
        others = (("all",), ("last", 1), ("changed", 1), (1, 2, 3), ("", 1), (None, 1), ("any", 1, 2))
        for value in NO_INTEGERS + others:
            self.check_condition(False, value)
            self.check_condition(False, (value,))
            self.check_condition(False, (value, 1))
            self.check_condition(False, (value, 1, 2))

    def test_what_claims_to_equal_a_word(self):
        self.check_keep(False, (Agreeing(),))
        self.check_keep(False, (Agreeing(), 1))
        self.check_condition(False, (Agreeing(), 1))
        self.check_condition(False, (Agreeing(), 1, 2))
        self.check_condition(False, ("ends", Agreeing()))
        self.check(False, Agreeing())
        self.check(False, (Agreeing(), Agreeing()))

    def test_how_many_conditions(self):
        one = ("near", 1)
        for many in range(6):
            self.check(many <= 3, ((one,) * many, ("all",)))
        self.check(True, ((("ends", "9"), ("length", 1, None), ("changed", 2, 6)), ("last", 6)))
        self.check(False, ((("ends", "9"), ("length", 0, None), ("changed", 2, 6)), ("last", 6)))
        self.check(False, ((("ends", "9"), ("length", 1, None), ("changed", 2, 7)), ("last", 6)))
        self.check(False, (one, ("all",)))

    def test_shape(self):
        good = ((("near", 1),), ("all",))
        self.check(True, good)
        for value in ([*good], (list(good[0]), good[1]), (good[0], list(good[1])), good + (1,), good + ((),), good[:1],
                      good[1:], good[::-1], (good,), (good, good), ((), None), (None, ("all",)), ("", ("all",)),
                      ({}, ("all",)), ({("near", 1): 1}, ("all",)), ((None,), ("all",)), ((), ()), ()):
            self.check(False, value)
        deep = (nested(48), ((), nested(48)), (nested(48), ("all",)), ((nested(47),), ("all",)))
        for value in NO_INTEGERS + (0, 7) + deep:
            self.check(False, value)
        self.check(True, Pair((Pair((Pair(("near", 1)),)), Pair(("all",)))))

    def test_by_name_and_base(self):
        self.assertIs(is_rule(base=2, value=((), ("all",))), True)
        self.assertIs(is_rule(base=2, value=((("ends", "2"),), ("all",))), False)
        for base in NO_BASES:
            for value in (((), ("all",)), None, ()):
                refused(self, BadBase, "value", base, is_rule, base, value)


if __name__ == "__main__":
    unittest.main()
