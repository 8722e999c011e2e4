"""Entries: ascending numbers and ranges, and the texts in which they are written and read."""

from shortspans.digits import digits, is_figures, is_number, need_base, worth
from shortspans.errors import BadEntry, BadManner, BadText
from shortspans.readers import completed, need_reader

MANNERS = ("full", "running")
MOST_ITEMS = 50
MOST_PART_DIGITS = 1000


def need_manner(manner):
    """Refuse any value that is no manner."""
    if not isinstance(manner, str) or manner not in MANNERS:
        raise BadManner(manner)


def is_item(value):
    """Whether any value is a number or a range."""
    if not isinstance(value, tuple):
        return is_number(value)
    return len(value) == 2 and is_number(value[0]) and is_number(value[1]) and value[0] < value[1]


def span_of(item):
    """The first and the last number of an item."""
    return item if isinstance(item, tuple) else (item, item)


def need_entry(value):
    """The value itself; any that is no entry is refused."""
    if not isinstance(value, tuple) or not 1 <= len(value) <= MOST_ITEMS:
        raise BadEntry(None)
    ahead = 0
    for number, item in enumerate(value):
        if not is_item(item) or span_of(item)[0] <= ahead:
            raise BadEntry(number)
        ahead = span_of(item)[1]
    return value


def entry_text(style, manner, entry):
    """The text of an entry by a style."""
    need_manner(manner)
    need_entry(entry)
    parts = []
    ahead = None
    for item in entry:
        first, last = span_of(item)
        alone = manner == "full" or ahead is None
        part = digits(style.base, first) if alone else style.tail(ahead, first)
        parts.append(part + "-" + style.tail(first, last) if first < last else part)
        ahead = last
    return ", ".join(parts)


def number_alone(base, text, ahead):
    """The number that digits write by themselves, or None if they cannot or it is not greater than the one ahead."""
    if text[0] == "0":
        return None
    number = worth(base, text)
    return number if number > ahead else None


def read_item(base, reader, part, ahead, alone):
    """The item that a part of a text writes behind the number ahead of it, or None."""
    texts = part.split("-")
    if len(texts) > 2 or not all([is_figures(base, text, MOST_PART_DIGITS) for text in texts]):
        return None
    first = number_alone(base, texts[0], ahead) if alone else completed(reader, base, ahead, texts[0])
    if first is None or len(texts) == 1:
        return first
    second = completed(reader, base, first, texts[1])
    return None if second is None else (first, second)


def read_entry(base, reader, manner, text):
    """The entry that a text writes."""
    need_base(base)
    need_reader(reader)
    need_manner(manner)
    if not isinstance(text, str):
        raise BadText(0, 0)
    items = []
    ahead = 0
    for number, part in enumerate(text.split(", ")):
        alone = manner == "full" or number == 0
        item = read_item(base, reader, part, ahead, alone) if number < MOST_ITEMS else None
        if item is None:
            raise BadText(1, number + 1)
        items.append(item)
        ahead = span_of(item)[1]
    return tuple(items)
