"""Styles: ordered rules that tell how many last digits of a range's second number are kept."""

from shortspans.digits import changed, digits, is_figures, is_integer, length, near, need_base, need_range
from shortspans.errors import BadNumber, BadRule

MOST_RULES = 8
MOST_CONDITIONS = 3
MOST_SIZE = 6
MOST_ENDING = 2


def is_size(value, least):
    """Whether any value is an integer from least to MOST_SIZE."""
    return is_integer(value) and least <= value <= MOST_SIZE


def are_bounds(least, most):
    """Whether any two values are a least size and a most size, or None for no upper bound."""
    return is_size(least, 1) and (most is None or is_size(most, least))


def begins(value, word, many):
    """Whether any value is a tuple of so many things with this word ahead."""
    if not isinstance(value, tuple) or len(value) != many:
        return False
    return isinstance(value[0], str) and value[0] == word


def is_condition(base, value):
    """Whether any value is a condition in a base."""
    if begins(value, "ends", 2):
        return is_figures(base, value[1], MOST_ENDING)
    if begins(value, "near", 2):
        return is_size(value[1], 0)
    if begins(value, "length", 3) or begins(value, "changed", 3):
        return are_bounds(value[1], value[2])
    return False


def is_keep(value):
    """Whether any value tells how many digits are kept."""
    if begins(value, "changed", 2) or begins(value, "last", 2):
        return is_size(value[1], 1)
    return begins(value, "all", 1)


def is_rule(base, value):
    """Whether any value is a rule in a base."""
    need_base(base)
    if not isinstance(value, tuple) or len(value) != 2:
        return False
    conditions, keep = value
    if not isinstance(conditions, tuple) or len(conditions) > MOST_CONDITIONS:
        return False
    return all([is_condition(base, condition) for condition in conditions]) and is_keep(keep)


def need_rules(base, rules):
    """Refuse values that are not the rules of a style."""
    if not 1 <= len(rules) <= MOST_RULES:
        raise BadRule(None)
    for number, rule in enumerate(rules):
        if not is_rule(base, rule):
            raise BadRule(number)
    last = len(rules) - 1
    if len(rules[last][0]) > 0:
        raise BadRule(last)


def need_place(number, many):
    """Refuse any value that is no integer from 0 to below many."""
    if not is_integer(number) or not 0 <= number < many:
        raise BadNumber(number)


def plain_rule(rule):
    """The rule in plain tuples, whatever tuples of a caller's own it was made of."""
    conditions, keep = rule
    return tuple([tuple(condition) for condition in conditions]), tuple(keep)


def facts_of(base, first, second):
    """All that rules ask about a range: both lengths, changed, near and the last digits of first."""
    need_range(first, second)
    written = digits(base, first)
    gap = near(base, first, second)
    return len(written), length(base, second), changed(base, first, second), gap, written[-MOST_ENDING:]


def holds(condition, facts):
    """Whether a condition holds for a range with these facts."""
    first_length, second_length, change, gap, ending = facts
    word = condition[0]
    if word == "ends":
        return ending.endswith(condition[1])
    if word == "near":
        return gap <= condition[1]
    size = first_length if word == "length" else change
    return condition[1] <= size and (condition[2] is None or size <= condition[2])


def first_applying(rules, facts):
    """The number of the first rule that applies to a range with these facts."""
    last = len(rules) - 1
    for number in range(last):
        if all([holds(condition, facts) for condition in rules[number][0]]):
            return number
    return last


def many_kept(keep, facts):
    """How many digits are kept of a range with these facts."""
    first_length, second_length, change, gap, ending = facts
    if keep[0] == "all":
        return second_length
    if keep[0] == "changed":
        return min(max(change, keep[1]), second_length)
    return min(keep[1], second_length)


def written(rules, facts):
    """The number of the rule that writes a range with these facts, and how many digits it keeps."""
    number = first_applying(rules, facts)
    return number, many_kept(rules[number][1], facts)


class Style:
    """A base and 1 to 8 rules, the last one without conditions; a style never changes."""

    def __init__(self, base, *rules):
        need_base(base)
        need_rules(base, rules)
        self.stored_base = base
        self.stored_rules = tuple([plain_rule(rule) for rule in rules])

    @classmethod
    def of(cls, base, rules):
        """The style with the rules of a list or tuple."""
        need_base(base)
        if not isinstance(rules, (list, tuple)):
            raise BadRule(None)
        return cls(base, *rules)

    @property
    def base(self):
        """The base."""
        return self.stored_base

    @property
    def rules(self):
        """The rules, a tuple."""
        return self.stored_rules

    def rule_of(self, first, second):
        """The number of the rule that writes a range."""
        return written(self.stored_rules, facts_of(self.stored_base, first, second))[0]

    def kept(self, first, second):
        """How many digits of second are kept."""
        return written(self.stored_rules, facts_of(self.stored_base, first, second))[1]

    def tail(self, first, second):
        """The text of the digits of second that are kept."""
        many = self.kept(first, second)
        return digits(self.stored_base, second)[-many:]

    def __call__(self, first, second):
        # The tail comes first because it refuses what is no range.
        behind = self.tail(first, second)
        return digits(self.stored_base, first) + "-" + behind

    def __len__(self):
        return len(self.stored_rules)

    def __getitem__(self, number):
        need_place(number, len(self.stored_rules))
        return self.stored_rules[number]

    def __iter__(self):
        raise TypeError("a style is not iterated over")

    def __contains__(self, value):
        # To Python, True equals 1; so what merely equals a rule is asked for first.
        return is_rule(self.stored_base, value) and value in self.stored_rules

    def __eq__(self, other):
        return (isinstance(other, Style) and self.stored_base == other.stored_base
                and self.stored_rules == other.stored_rules)

    def __radd__(self, other):
        if not isinstance(other, tuple):
            return NotImplemented
        if not is_rule(self.stored_base, other):
            raise BadRule(0)
        return Style(self.stored_base, other, *self.stored_rules)

    def without(self, number):
        """A style without a rule that is not the last one."""
        need_place(number, len(self.stored_rules) - 1)
        rules = list(self.stored_rules)
        del rules[number]
        return Style.of(self.stored_base, rules)

    def put(self, number, rule):
        """A style with another rule in the place of one."""
        need_place(number, len(self.stored_rules))
        rules = list(self.stored_rules)
        rules[number] = rule
        return Style.of(self.stored_base, rules)
