"""What several test files need: values of every kind, and the check that a call is refused."""

from shortspans.styles import Style


class Thing:
    """An object of a kind that the package does not know."""


def nested(depth):
    """A list, a tuple and a dict within one another, so many in all."""
    value = 1
    for level in range(depth):
        value = ([value], (value,), {"a": value})[level % 3]
    return value


# Values that are no integers, and so neither bases nor numbers nor sizes.
NO_INTEGERS = (
    None, True, False, "", "0", "1", "2", "10", " ", "all", b"", b"10", bytearray(b"2"),
    (), (1,), (1, 2), [], [1], [1, 2], {}, {1: 2}, {"a": [1]}, set(), {1, 2}, frozenset((1,)),
    range(3), slice(1), Thing(), Thing, len, int, NotImplemented, Ellipsis, ValueError("x"), 2j,
    Style(10, ((), ("all",))), nested(50),
)
NO_NUMBERS = NO_INTEGERS + (0, -1, -2, -(10 ** 1000))
NO_BASES = NO_NUMBERS + (1, 11, 12, 16, 10 ** 1000)
BASES = (2, 3, 4, 5, 6, 7, 8, 9, 10)


def refused(case, error, field, worth, call, *args, **named):
    """The call raises just this error, with this worth, of the same kind, in its field."""
    with case.assertRaises(error) as caught:
        call(*args, **named)
    case.assertEqual(caught.exception.__class__, error)
    told = getattr(caught.exception, field)
    case.assertEqual(told, worth)
    case.assertEqual(told.__class__, worth.__class__)


def told_plainly(value):
    """Whether all tuples in a value are plain ones."""
    if isinstance(value, tuple):
        return value.__class__ is tuple and all(told_plainly(item) for item in value)
    return True
