"""Readers: words that tell how what is kept of a range's second number is completed."""

from shortspans.digits import behind, is_figures, need_base, need_number, raised, worth
from shortspans.errors import BadDigits, BadReader
from shortspans.styles import facts_of

READERS = ("replace", "next")
MOST_TAIL = 1000


def need_reader(reader):
    """Refuse any value that is no reader."""
    if not isinstance(reader, str) or reader not in READERS:
        raise BadReader(reader)


def replaced(base, first, tail):
    """What "replace" makes of a tail behind first, or None."""
    power = raised(base, len(tail))
    if first < power and tail[0] == "0":
        return None
    # Of a first number with no more digits than the tail nothing is left ahead of it.
    number = first - first % power + worth(base, tail)
    return number if number > first else None


def completed(reader, base, first, tail):
    """The number to which a reader completes a tail behind first, or None."""
    need_reader(reader)
    need_base(base)
    need_number(first)
    if not is_figures(base, tail, MOST_TAIL):
        raise BadDigits(tail)
    if reader == "replace":
        return replaced(base, first, tail)
    return behind(first, worth(base, tail), raised(base, len(tail)))


def fewest_kept(reader, facts):
    """The fewest digits with which a reader gets a range with these facts right."""
    first_length, second_length, change, gap, ending = facts
    return change if reader == "replace" else max(gap, 1)


def fewest(reader, base, first, second):
    """The fewest digits with which a reader gets a range right."""
    need_reader(reader)
    need_base(base)
    return fewest_kept(reader, facts_of(base, first, second))


def is_right(style, reader, first, second):
    """Whether a reader completes what a style keeps of second to second."""
    need_reader(reader)
    return style.kept(first, second) >= fewest(reader, style.base, first, second)
