"""Pages: the numbers that the items of an entry have or that lie within its ranges, as spans from first to last."""

from shortspans.entries import MOST_ITEMS, span_of
from shortspans.errors import TooMany


def plain_entry(entry):
    """The entry in plain tuples, whatever tuples of a caller's own it was made of."""
    return tuple([tuple(item) if isinstance(item, tuple) else item for item in entry])


def joined(spans):
    """All pages of some spans as few ascending spans as can be."""
    found = []
    for first, last in sorted(spans):
        if len(found) > 0 and first <= found[-1][1] + 1:
            found[-1] = (found[-1][0], max(found[-1][1], last))
        else:
            found.append((first, last))
    return found


def entry_of(spans):
    """The entry with as few items as can be that has the pages of some spans, or None if there are no pages."""
    items = tuple([first if first == last else (first, last) for first, last in joined(spans)])
    if len(items) > MOST_ITEMS:
        raise TooMany(MOST_ITEMS)
    return items if len(items) > 0 else None


def noted(items, more):
    """The entry that has the pages of some items and of more items."""
    return entry_of([span_of(item) for item in (*items, *more)])


def struck(items, item):
    """The entry that has the pages of some items but for those of one item, or None if no page is left."""
    first, last = span_of(item)
    left = []
    for low, high in [span_of(each) for each in items]:
        left.extend([(low, min(high, first - 1)), (max(low, last + 1), high)])
    return entry_of([(low, high) for low, high in left if low <= high])
