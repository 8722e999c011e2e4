"""The document's words done one range at a time: what the answers of the package are held against."""

import functools
import itertools

from shortspans.styles import Style

READERS = ("replace", "next")
WORDS = ("ends", "length", "changed", "near")


def text_of(base, number):
    figures = ""
    while number:
        number, figure = divmod(number, base)
        figures = str(figure) + figures
    return figures


def features(base, first, second):
    """Both texts, changed and near, as the document words them."""
    one, two = text_of(base, first), text_of(base, second)
    change = len(two)
    if len(one) == len(two):
        while one[len(two) - change] == two[len(two) - change]:
            change -= 1
    gap = 0
    while second - first > base ** gap:
        gap += 1
    return one, two, change, gap


def holds(condition, one, change, gap):
    if condition[0] == "ends":
        return len(one) >= len(condition[1]) and one[len(one) - len(condition[1]):] == condition[1]
    if condition[0] == "near":
        return gap <= condition[1]
    size = {"length": len(one), "changed": change}[condition[0]]
    return size >= condition[1] and (condition[2] is None or size <= condition[2])


def many_of(keep, two, change):
    """How many digits of second are kept."""
    if keep[0] == "all":
        return len(two)
    return min({"changed": max(change, keep[1]), "last": keep[1]}[keep[0]], len(two))


def writes(rules, seen):
    """(rule, kept) of a range with these features."""
    one, two, change, gap = seen
    applying = [at for at, rule in enumerate(rules) if all(holds(each, one, change, gap) for each in rule[0])]
    return applying[0], many_of(rules[applying[0]][1], two, change)


def expected(style, first, second):
    """(rule, kept, tail, form) of a range, from the texts of its numbers."""
    one, two, change, gap = seen = features(style.base, first, second)
    number, kept = writes(style.rules, seen)
    tail = two[len(two) - kept:]
    return number, kept, tail, one + "-" + tail


def gets_right(reader, base, first, second, kept):
    """Whether the last digits of second, so many, are completed to second."""
    if reader == "next":
        # Numbers with one remainder by a power are this power or a multiple of it apart.
        return second - base ** kept <= first
    one, two = text_of(base, first), text_of(base, second)
    tail = two[len(two) - kept:]
    made = one[:len(one) - kept] + tail if len(one) > kept else tail
    return made == two


def fewest_found(reader, base, first, second):
    """The least number of digits, from 1 on, with which a range is got right."""
    return next(kept for kept in itertools.count(1) if gets_right(reader, base, first, second, kept))


def is_misread(style, reader, first, second):
    return not gets_right(reader, style.base, first, second, expected(style, first, second)[1])


def is_wasted(style, reader, first, second):
    return expected(style, first, second)[1] > fewest_found(reader, style.base, first, second)


@functools.lru_cache(maxsize=None)
def seen_ranges(base, many):
    """All ranges of up to so many digits with their features and fewest digits, the least range first."""
    return [((first, second), features(base, first, second),
             {reader: fewest_found(reader, base, first, second) for reader in READERS})
            for second in range(2, base ** many) for first in range(1, second)]


def least_found(rows, asked):
    """The first of these ranges of which it is so what is asked, or None."""
    return next((pair for pair, seen, fewest in rows if asked(seen, fewest)), None)


def drawn_condition(draw, base, size):
    word = draw.choice(WORDS)
    if word == "ends":
        many = draw.randint(1, min(size, 2))
        return "ends", "".join(draw.choice("0123456789"[:base]) for place in range(many))
    if word == "near":
        return "near", draw.randint(0, size)
    least = draw.randint(1, size)
    return word, least, draw.choice((None, draw.randint(least, size)))


def drawn_keep(draw, size):
    return draw.choice((("all",), ("changed", draw.randint(1, size)), ("last", draw.randint(1, size))))


def drawn_rules(draw, base, size, many):
    """So many rules with sizes up to this one; now and then one that has no conditions, or stands there already."""
    rules = []
    for number in range(many - 1):
        conditions = tuple(drawn_condition(draw, base, size) for place in range(draw.choice((0, 1, 1, 1, 2, 2, 3))))
        rules.append(draw.choice(rules) if rules and draw.random() < 0.1 else (conditions, drawn_keep(draw, size)))
    return rules + [((), drawn_keep(draw, size))]


def drawn_style(draw, base, size, many):
    return Style.of(base, drawn_rules(draw, base, size, many))


def drawn_range(draw, base, digits):
    """A range with up to so many digits, its numbers near one another or far apart."""
    second = draw.randrange(2, base ** draw.randint(1, digits) + 2)
    way = draw.randrange(4)
    if way == 0:
        return draw.randrange(1, second), second
    power = base ** draw.randrange(digits)
    if way == 1:
        return max(1, second - draw.randint(1, power)), second
    if way == 2:
        return max(1, second - power - draw.randrange(2)), second
    second = max(2, second - second % power)
    return max(1, second - draw.randint(1, base ** 2)), second
