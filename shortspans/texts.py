"""Texts of styles: a line for the base, and one for each rule."""

from shortspans.digits import FIGURES, LEAST_BASE, MOST_BASE
from shortspans.errors import BadText
from shortspans.styles import MOST_CONDITIONS, MOST_RULES, MOST_SIZE, Style

UNBOUNDED = "*"


def words_of(part):
    """The text of a condition, or of what is kept."""
    return " ".join([UNBOUNDED if value is None else str(value) for value in part])


def rule_text(rule):
    """The line of a rule."""
    conditions, keep = rule
    if len(conditions) == 0:
        return words_of(keep)
    return " ".join([words_of(keep), "when"] + [words_of(condition) for condition in conditions])


def style_text(style):
    """The text of a style."""
    return "\n".join([f"base {style.base}"] + [rule_text(rule) for rule in style.rules])


def numerals(least, most):
    """The texts of the integers from least to most."""
    return [str(number) for number in range(least, most + 1)]


def endings(base):
    """All texts of one or two digits of a base."""
    figures = list(FIGURES[:base])
    return figures + [figure + other for figure in figures for other in figures]


class Words:
    """The words of a line, taken one after another."""

    def __init__(self, line, text):
        self.line = line
        self.words = text.split(" ")
        self.taken = 0

    def are_over(self):
        """Whether all words are taken."""
        return self.taken == len(self.words)

    def take(self, fit):
        """The next word; refuse it if it is none of those that fit, or if there is none."""
        if self.are_over() or self.words[self.taken] not in fit:
            raise BadText(self.line, self.taken + 1)
        self.taken = self.taken + 1
        return self.words[self.taken - 1]

    def need_end(self):
        """Refuse a word that is not taken."""
        if not self.are_over():
            raise BadText(self.line, self.taken + 1)


def read_base(words):
    """The base that the words of the first line tell."""
    words.take(("base",))
    base = int(words.take(numerals(LEAST_BASE, MOST_BASE)))
    words.need_end()
    return base


def read_keep(words):
    """What is kept, by the next words."""
    word = words.take(("all", "changed", "last"))
    return (word,) if word == "all" else (word, int(words.take(numerals(1, MOST_SIZE))))


def read_condition(base, words):
    """The condition that the next words tell."""
    word = words.take(("ends", "length", "changed", "near"))
    if word == "ends":
        return word, words.take(endings(base))
    if word == "near":
        return word, int(words.take(numerals(0, MOST_SIZE)))
    least = int(words.take(numerals(1, MOST_SIZE)))
    most = words.take(numerals(least, MOST_SIZE) + [UNBOUNDED])
    return word, least, None if most == UNBOUNDED else int(most)


def read_rule(base, words):
    """The rule that the words of a line tell."""
    keep = read_keep(words)
    conditions = []
    if not words.are_over():
        words.take(("when",))
        conditions.append(read_condition(base, words))
    while len(conditions) < MOST_CONDITIONS and not words.are_over():
        conditions.append(read_condition(base, words))
    words.need_end()
    return tuple(conditions), keep


def read_style(text):
    """The style that a text tells."""
    if not isinstance(text, str):
        raise BadText(0, 0)
    lines = [Words(number, line) for number, line in enumerate(text.split("\n"), start=1)]
    most = MOST_RULES + 1
    base = read_base(lines[0])
    rules = [read_rule(base, words) for words in lines[1:most]]
    if len(lines) == 1:
        raise BadText(2, 1)
    if len(lines) > most:
        raise BadText(most + 1, 1)
    return Style.of(base, rules)
