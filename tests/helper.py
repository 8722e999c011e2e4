"""What several test files need: values of every kind, and the check that a call is refused."""

from shortspans.errors import BadRange
from shortspans.index import Index
from shortspans.styles import Style

SHORT = Style(10, ((), ("changed", 1)))


class Thing:
    """An object of a kind that the package does not know."""


class Agreeing:
    """An object that says of everything that it equals it."""

    def __eq__(self, other):
        return True


def nested(depth):
    """A list, a tuple and a dict within one another, so many in all."""
    value = 1
    for level in range(depth):
        value = ([value], (value,), {"a": value})[level % 3]
    return value


# Values that are no integers, and so neither bases nor numbers nor sizes.
NO_INTEGERS = (
    None, True, False, "", "0", "1", "2", "10", " ", "all", b"", b"10", bytearray(b"2"),
    (), (1,), (1, 2), [], [1], [1, 2], {}, {1: 2}, {"a": [1]}, set(), {1, 2}, frozenset((1,)),
    range(3), slice(1), Thing(), Thing, len, int, NotImplemented, Ellipsis, ValueError("x"), 2j,
    Style(10, ((), ("all",))), nested(50),
)
NO_NUMBERS = NO_INTEGERS + (0, -1, -2, -(10 ** 1000))
NO_BASES = NO_NUMBERS + (1, 11, 12, 16, 10 ** 1000)
NO_READERS = NO_INTEGERS + (
    0, 1, -1, "Replace", "NEXT", "replace ", " next", "next\n", "rep", "nextnext", "replace,next", b"next", ("next",),
    ["replace"], {"next": "next"}, ("replace", "next"),
)
NO_MANNERS = NO_INTEGERS + (
    0, 1, -1, "Full", "RUNNING", "full ", " running", "full\n", "run", "fullfull", "full,running", b"full", ("full",),
    ["full"], {"full": "full"}, ("full", "running"),
)
NO_TEXTS = tuple([value for value in NO_INTEGERS if not isinstance(value, str)]) + (
    0, 1, 10, -5, 10 ** 999, ("1",), ["1"], {"1": "2"}, b"1, 2", b"base 10\nall", ("base 10", "all"),
    ["base 10", "all"],
)
BASES = (2, 3, 4, 5, 6, 7, 8, 9, 10)
GREAT = 10 ** 999
NO_RANGES = (
    [(1, 1), (2, 1), (5, 4), (GREAT, GREAT), (GREAT, 5), (True, 2), (1, True), (0, 1), (-1, 1), (-2, -1), ((1, 2), None)]
    + [(value, 5) for value in NO_NUMBERS] + [(5, value) for value in NO_NUMBERS]
    + [(value, value) for value in NO_NUMBERS] + [("1", "2"), ([1], [2]), (Thing(), "2"), (nested(50), nested(50))]
)


def refused(case, error, field, worth, call, *args, **named):
    """The call raises just this error, with this worth, of the same kind, in its field."""
    with case.assertRaises(error) as caught:
        call(*args, **named)
    case.assertEqual(caught.exception.__class__, error)
    told = getattr(caught.exception, field)
    case.assertEqual(told, worth)
    case.assertEqual(told.__class__, worth.__class__)


def refused_range(case, pair, call, *args):
    """The call raises BadRange with just this pair, a plain one."""
    with case.assertRaises(BadRange) as caught:
        call(*args)
    told = caught.exception.value
    case.assertIs(told.__class__, tuple)
    case.assertEqual(told, pair)
    case.assertEqual([each.__class__ for each in told], [each.__class__ for each in pair])


def index_of(entries, style=SHORT, manner="full"):
    """An index with these entries, put in one after another."""
    index = Index(style, manner=manner)
    for name in entries:
        index[name] = entries[name]
    return index


def told_plainly(value):
    """Whether all tuples in a value are plain ones."""
    if isinstance(value, tuple):
        return value.__class__ is tuple and all(told_plainly(item) for item in value)
    return True
