"""Numbers in a base, their digits, and how far the two numbers of a range lie apart."""

from shortspans.errors import BadBase, BadDigits, BadNumber, BadRange

FIGURES = "0123456789"
LEAST_BASE = 2
MOST_BASE = 10
MOST_DIGITS = 4000


def is_integer(value):
    """Whether any value is an integer; True and False are none."""
    return isinstance(value, int) and not isinstance(value, bool)


def is_number(value):
    """Whether any value is a number."""
    return is_integer(value) and value >= 1


def is_figures(base, value, most):
    """Whether any value is a text of 1 to so many digits of a base."""
    if not isinstance(value, str) or not 1 <= len(value) <= most:
        return False
    return all([figure in FIGURES[:base] for figure in value])


def need_base(base):
    """Refuse any value that is no base."""
    if not is_integer(base) or not LEAST_BASE <= base <= MOST_BASE:
        raise BadBase(base)


def need_number(number):
    """Refuse any value that is no number."""
    if not is_number(number):
        raise BadNumber(number)


def need_range(first, second):
    """Refuse any two values that are no range."""
    if not is_number(first) or not is_number(second) or first >= second:
        raise BadRange((first, second))


def raised(base, exponent):
    """A power of a base."""
    power = 1
    for step in range(exponent):
        power = power * base
    return power


def behind(number, remainder, step):
    """The least integer that is greater than a number and leaves a remainder when divided by a step."""
    return number + 1 + (remainder - number - 1) % step


def worth(base, figures):
    """The number that figures write; they may begin with zeros, or be zeros alone."""
    number = 0
    for figure in figures:
        number = number * base + int(figure)
    return number


def digits(base, number):
    """The digits of a number, a text."""
    need_base(base)
    need_number(number)
    # Python's own str() refuses integers of more than some thousand digits.
    figures = []
    while number > 0:
        number, figure = divmod(number, base)
        figures.append(FIGURES[figure])
    return "".join(figures[::-1])


def number_of(base, text):
    """The number that digits write."""
    need_base(base)
    if not is_figures(base, text, MOST_DIGITS) or text[0] == "0":
        raise BadDigits(text)
    return worth(base, text)


def length(base, number):
    """How many digits a number has."""
    return len(digits(base, number))


def changed(base, first, second):
    """How many last digits of second there are from the first digit on in which the two numbers are different."""
    need_base(base)
    need_range(first, second)
    # Numbers of different lengths stay different until no digit is left of them.
    many = 0
    while first != second:
        first, second = first // base, second // base
        many = many + 1
    return many


def near(base, first, second):
    """The least exponent from 0 on with which a power of the base reaches the difference of the two numbers."""
    need_base(base)
    need_range(first, second)
    exponent = 0
    power = 1
    while power < second - first:
        power = power * base
        exponent = exponent + 1
    return exponent
