"""Stretches: how one first number is written with all second numbers up to a most one."""

from shortspans.digits import behind, is_number, need_number
from shortspans.errors import BadNumber
from shortspans.styles import facts_of, written


def lasts_of(base, first, most):
    """The second numbers up to most behind which a fact may change, ascending; most is the last one."""
    found = [most]
    power = 1
    while power <= most:
        # Behind the one changed is greater, or the length of second; behind the other one near is.
        found.extend([behind(first, 0, power) - 1, first + power])
        power = power * base
    return sorted(set([last for last in found if first < last <= most]))


def stretches(style, first, most):
    """Triples of the last second number, the rule and how many digits are kept, for all up to most."""
    need_number(first)
    if not is_number(most) or most <= first:
        raise BadNumber(most)
    base, rules = style.base, style.rules
    found = []
    for last in lasts_of(base, first, most):
        number, many = written(rules, facts_of(base, first, last))
        if len(found) > 0 and found[-1][1:] == (number, many):
            found.pop()
        found.append((last, number, many))
    return tuple(found)


def total(style, first, most):
    """How many digits are kept of all ranges from first to the second numbers up to most."""
    added = 0
    ahead = first
    for last, number, many in stretches(style, first, most):
        added = added + (last - ahead) * many
        ahead = last
    return added
