"""Facts: that all depends on them alone, that few digits are enough, and the least range with given facts."""

import random
import unittest

from shortspans.cases import cases, least_range
from shortspans.deciding import limit
from shortspans.readers import completed
from shortspans.styles import Style, facts_of
from tests.search import READERS, drawn_style, seen_ranges

TEXTS = ("0", "1", "01", "11", "00")


def all_cases(base, most, texts):
    return [alike for many in range(1, most + 1) for alike in cases(base, many, texts)]


def outcome(facts, bound):
    """All of these facts that a style can ask for, or a reader, if no size is above a bound."""
    first_length, second_length, change, gap, ending = facts
    sizes = tuple(min(size, bound + 1) for size in facts[:4])
    return sizes, change < second_length, gap < change, gap < second_length, ending[-min(bound, 2):]


class Facts(unittest.TestCase):
    def test_all_depends_on_them(self):
        draw = random.Random(20)
        for base, most in ((2, 7), (3, 4), (10, 2)):
            for times in range(6):
                style = drawn_style(draw, base, 3, 4)
                found = {}
                for pair, (one, two, change, gap), fewest in seen_ranges(base, most):
                    facts = len(one), len(two), change, gap, one[-2:]
                    right = [completed(reader, base, pair[0], style.tail(*pair)) == pair[1] for reader in READERS]
                    told = style.rule_of(*pair), style.kept(*pair), right
                    self.assertEqual(found.setdefault(facts, told), told)

    def test_told(self):
        for base, most in ((2, 6), (10, 2)):
            for pair, (one, two, change, gap), fewest in seen_ranges(base, most):
                self.assertEqual(facts_of(base, *pair), (len(one), len(two), change, gap, one[-2:]))

    def test_few_digits_are_enough(self):
        for base, bounds in ((2, (1, 2, 3, 6)), (3, (1, 2, 6)), (10, (1, 2))):
            for bound in bounds:
                enough, more = (
                    {outcome(facts, bound) for alike in all_cases(base, most, ()) for facts in alike
                     if least_range(base, facts) is not None} for most in (bound + 3, bound + 6))
                self.assertEqual(enough, more)


class LeastRanges(unittest.TestCase):
    def test_against_a_search(self):
        for base, most in ((2, 8), (3, 5), (4, 4), (6, 3), (10, 2)):
            found = {}
            for second in range(2, base ** most):
                for first in range(1, second):
                    found.setdefault(facts_of(base, first, second), (first, second))
            known = [facts for alike in all_cases(base, most, TEXTS) for facts in alike]
            self.assertEqual(len(known), len(set(known)))
            self.assertEqual({facts: least_range(base, facts) for facts in known},
                             {facts: found.get(facts) for facts in known})
            self.assertEqual(set(found) - set(known), set())

    def test_have_the_facts(self):
        for base in (7, 10):
            some = 0
            for alike in all_cases(base, 9, ("6", "06", "33")):
                pair = least_range(base, alike[-1])
                if pair is not None:
                    some += 1
                    self.assertEqual(facts_of(base, *pair), alike[-1])
            self.assertGreater(some, 400)

    def test_alike(self):
        style = Style(4, ((("ends", "0"),), ("last", 1)), ((("ends", "11"),), ("last", 1)), ((), ("all",)))
        for alike in all_cases(4, limit(style) + 3, ("0", "11")):
            self.assertEqual(len({facts[:4] for facts in alike}), 1)
            self.assertEqual(len({(facts[4].endswith("0"), facts[4].endswith("11")) for facts in alike}), 1)


if __name__ == "__main__":
    unittest.main()
