"""Decisions about styles for all ranges at once: what can be told of their facts, case by case."""

from shortspans.cases import cases, least_range
from shortspans.digits import is_integer
from shortspans.errors import OtherBase, TooMany
from shortspans.readers import fewest_kept, need_reader
from shortspans.styles import Style, holds, many_kept, need_place, written

MORE_DIGITS = 3
MOST_LEAN = 6


def sizes_of(rule):
    """All integers in a rule, and the numbers of digits in its "ends"."""
    conditions, keep = rule
    values = [value for part in (*conditions, keep) for value in part[1:] if value is not None]
    return [value if is_integer(value) else len(value) for value in values]


def limit(*styles):
    """The limit of one or more styles: the greatest of the sizes in their rules, and at least 1."""
    return max([1] + [size for style in styles for rule in style.rules for size in sizes_of(rule)])


def ends_of(styles):
    """All texts that stand in the "ends" of some styles."""
    conditions = [condition for style in styles for rule in style.rules for condition in rule[0]]
    return [condition[1] for condition in conditions if condition[0] == "ends"]


def least_by(styles, told):
    """For each thing that is told of the facts of some range: the least range of whose facts it is told."""
    base = styles[0].base
    texts = ends_of(styles)
    found = {}
    for second_length in range(1, limit(*styles) + MORE_DIGITS + 1):
        here = {}
        for alike in cases(base, second_length, texts):
            thing = told(alike[0])
            # A range whose second number has fewer digits is less than all that have more.
            if thing not in found:
                ranges = [least_range(base, facts) for facts in alike]
                here.setdefault(thing, []).extend([(pair[1], pair[0]) for pair in ranges if pair is not None])
        for thing in here:
            if len(here[thing]) > 0:
                second, first = min(here[thing])
                found[thing] = (first, second)
    return found


def first_range(style, number):
    """The least range that is written by the rule with this number, or None."""
    need_place(number, len(style))
    rules = style.rules
    return least_by([style], lambda facts: written(rules, facts)[0]).get(number)


def misread(style, reader):
    """The least range that a style misreads, or None."""
    need_reader(reader)
    rules = style.rules
    return least_by([style], lambda facts: written(rules, facts)[1] < fewest_kept(reader, facts)).get(True)


def wasted(style, reader):
    """The least range on which a style wastes digits, or None."""
    need_reader(reader)
    rules = style.rules
    return least_by([style], lambda facts: written(rules, facts)[1] > fewest_kept(reader, facts)).get(True)


def misread_by(style, reader):
    """For each rule the least range among those that it writes and the style misreads, or None."""
    need_reader(reader)
    rules = style.rules

    def told(facts):
        number, many = written(rules, facts)
        return number, many < fewest_kept(reader, facts)

    found = least_by([style], told)
    return tuple([found.get((number, True)) for number in range(len(rules))])


def need_one_base(one, other):
    """Refuse two styles with different bases."""
    if one.base != other.base:
        raise OtherBase()


def parting(one, other):
    """The least range at which two styles part, or None."""
    need_one_base(one, other)
    ones, others = one.rules, other.rules
    return least_by([one, other], lambda facts: written(ones, facts)[1] != written(others, facts)[1]).get(True)


def longer_at(one, other):
    """The least range at which one style is longer than another one, or None."""
    need_one_base(one, other)
    ones, others = one.rules, other.rules
    return least_by([one, other], lambda facts: written(ones, facts)[1] > written(others, facts)[1]).get(True)


def never_longer(one, other):
    """Whether there is no range at which one style is longer than another one."""
    return longer_at(one, other) is None


def rows_of(style):
    """All rows that ranges have: for each rule how many digits it keeps, or None if it does not apply."""
    rules = style.rules

    def row_of(facts):
        applying = [all([holds(condition, facts) for condition in conditions]) for conditions, keep in rules]
        return tuple([many_kept(rules[number][1], facts) if applies else None
                      for number, applies in enumerate(applying)])

    return list(least_by([style], row_of))


def kept_in(row, numbers):
    """How many digits are kept in a row by the first of these rules that applies."""
    return [row[number] for number in numbers if row[number] is not None][0]


def are_enough(rows, numbers):
    """Whether the rules with these numbers write all ranges as all rules do."""
    return all([kept_in(row, numbers) == [many for many in row if many is not None][0] for row in rows])


def needless(style):
    """The numbers of the needless rules, ascending."""
    rows = rows_of(style)
    numbers = list(range(len(style)))
    return tuple([number for number in numbers[:-1] if are_enough(rows, numbers[:number] + numbers[number + 1:])])


def choices(last, many):
    """All ascending tuples of so many numbers that end with the last one, the least tuple first."""
    found = [()]
    for step in range(many - 1):
        found = [(*choice, number) for choice in found for number in range(last) if number > max([-1, *choice])]
    return [(*choice, last) for choice in found]


def lean(style):
    """The style with as few of the rules as write all ranges the same; of several the one with the least numbers."""
    if len(style) > MOST_LEAN:
        raise TooMany(MOST_LEAN)
    rows, rules = rows_of(style), style.rules
    last = len(rules) - 1
    fit = [choice for many in range(1, len(rules) + 1) for choice in choices(last, many) if are_enough(rows, choice)]
    return Style.of(style.base, [rules[number] for number in fit[0]])


def mended(style, reader):
    """The style with "changed" in the place of "last" in each rule by which some range is misread."""
    rules = list(style.rules)
    for number, least in enumerate(misread_by(style, reader)):
        if least is not None:
            conditions, keep = rules[number]
            rules[number] = (conditions, ("changed", keep[1]))
    return Style.of(style.base, rules)
