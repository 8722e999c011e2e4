"""What the document says of entries and of styles' texts, done word by word: what the package is held against."""

import itertools
import re

from tests.search import drawn_condition, drawn_keep, expected, text_of

MANNERS = ("full", "running")
KEEP_WORDS = (("all",), ("changed", "size"), ("last", "size"))
CONDITION_WORDS = (("ends", "ending"), ("length", "size", "most"), ("changed", "size", "most"), ("near", "size or 0"))
RULE_WORDS = [keep + tail for keep in KEEP_WORDS for tail in [()] + [
    sum(chosen, ("when",)) for many in (1, 2, 3) for chosen in itertools.product(CONDITION_WORDS, repeat=many)]]


def text_of_entry(style, manner, entry):
    """An entry's text, put together from digits, tails and forms."""
    told, ahead = "", None
    for item in entry:
        first, second = item if isinstance(item, tuple) else (item, None)
        head = text_of(style.base, first)
        if manner == "running" and ahead is not None:
            head = expected(style, ahead, first)[2]
        told += ", " if told else ""
        told += head if second is None else head + "-" + expected(style, first, second)[2]
        ahead = first if second is None else second
    return told


def completed_text(reader, base, first, tail):
    """The number to which a tail is completed, or None."""
    one, power = text_of(base, first), base ** len(tail)
    if reader == "next":
        number = first - first % power + int(tail, base)
        return number if number > first else number + power
    made = one[:len(one) - len(tail)] + tail if len(one) > len(tail) else tail
    return None if made[0] == "0" or int(made, base) <= first else int(made, base)


def entry_read(base, reader, manner, text):
    """The entry that a text writes, or the number of the first part that is not as told."""
    figures = "[0-" + str(base - 1) + "]{1,1000}"
    items, ahead = [], 0
    for word, part in enumerate(text.split(", "), 1):
        found = re.fullmatch("(" + figures + ")(?:-(" + figures + "))?", part)
        if found is None or word > 50:
            return word
        head, tail = found.groups()
        if manner == "running" and items:
            first = completed_text(reader, base, ahead, head)
        else:
            first = None if head[0] == "0" or int(head, base) <= ahead else int(head, base)
        if first is None:
            return word
        ahead = first if tail is None else completed_text(reader, base, first, tail)
        if ahead is None:
            return word
        items.append(first if tail is None else (first, ahead))
    return tuple(items)


def drawn_number(draw, base, ahead, digits):
    """A number behind another one: the next one, one near it, one at a change of digits, or one far away."""
    power = base ** draw.randrange(digits)
    return max(ahead + 1, draw.choice((
        ahead + 1, ahead + draw.randint(1, base), ahead + power, ahead + power + 1,
        ahead - ahead % power + power - draw.randrange(2), ahead + draw.randint(1, base ** digits))))


def drawn_entry(draw, base, items, digits):
    found, ahead = [], 0
    for place in range(items):
        first = ahead = drawn_number(draw, base, ahead, digits)
        if draw.random() < 0.5:
            ahead = drawn_number(draw, base, first, digits)
        found.append(first if ahead == first else (first, ahead))
    return tuple(found)


def pages_of(entry):
    """All pages of an entry with small numbers, a set."""
    return {page for item in entry
            for page in (range(item[0], item[1] + 1) if isinstance(item, tuple) else (item,))}


def entry_with(pages):
    """The entry with as few items as can be, by a look at the pages one after another."""
    rows = []
    for page in sorted(pages):
        if rows and rows[-1][-1] == page - 1:
            rows[-1].append(page)
        else:
            rows.append([page])
    return tuple(row[0] if len(row) == 1 else (row[0], row[-1]) for row in rows)


def text_of_style(base, rules):
    lines = [f"base {base}"]
    for conditions, keep in rules:
        words = [keep[0]] + [str(size) for size in keep[1:]] + ["when"] * (len(conditions) > 0)
        for condition in conditions:
            words += [condition[0]] + ["*" if size is None else str(size) for size in condition[1:]]
        lines.append(" ".join(words))
    return "\n".join(lines)


def can_stand(base, kind, words, at):
    """Whether a word can stand where a rule has a word of this kind."""
    word = words[at]
    if kind == "ending":
        return re.fullmatch("[0-" + str(base - 1) + "]{1,2}", word) is not None
    if kind == "size or 0":
        return word in tuple("0123456")
    if kind == "size":
        return word in tuple("123456")
    if kind == "most":
        return word == "*" or (word in tuple("123456") and word >= words[at - 1])
    return word == kind


def fault_of(words, shapes, base):
    """The first word that cannot stand in a line of one of these shapes, the one behind if words are missing, or 0."""
    fitting = 0
    for shape in shapes:
        most = 0
        while most < min(len(shape), len(words)) and can_stand(base, shape[most], words, most):
            most += 1
        if most == len(shape) == len(words):
            return 0
        fitting = max(fitting, most)
    return fitting + 1


def fault_of_style(text):
    """(line, word) of what cannot stand in the text of a style, the number of a bad last rule, or None."""
    lines = [line.split(" ") for line in text.split("\n")]
    bases = [("base", str(base)) for base in range(2, 11)]
    if fault_of(lines[0], bases, 10):
        return 1, fault_of(lines[0], bases, 10)
    base = int(lines[0][1])
    for number, words in enumerate(lines[1:9], 2):
        if fault_of(words, RULE_WORDS, base):
            return number, fault_of(words, RULE_WORDS, base)
    if len(lines) == 1 or len(lines) > 9:
        return (2, 1) if len(lines) == 1 else (10, 1)
    return len(lines) - 2 if "when" in lines[-1] else None


def drawn_any_rules(draw, base):
    """1 to 8 rules with up to 3 conditions, the last one without any."""
    rules = [(tuple(drawn_condition(draw, base, 6) for place in range(draw.randrange(4))), drawn_keep(draw, 6))
             for number in range(draw.randrange(8))]
    return rules + [((), drawn_keep(draw, 6))]


def changed_row(draw, row, more):
    """A list in which something is put in, left out, exchanged, doubled, or has changed places."""
    row, at, way = list(row), draw.randrange(len(row) + 1), draw.randrange(5)
    if way == 0:
        row.insert(at, draw.choice(more))
    elif at < len(row):
        if way == 1:
            del row[at]
        elif way == 2:
            row[at] = draw.choice(more)
        elif way == 3:
            row.insert(at, row[at])
        else:
            other = draw.randrange(len(row))
            row[at], row[other] = row[other], row[at]
    return row
