"""The errors of the package, each with the fields that tell what was refused."""


class SpanError(ValueError):
    """Any argument that is refused."""


class BadBase(SpanError):
    """A value that is no base."""

    def __init__(self, value):
        super().__init__("a base is an integer from 2 to 10")
        self.value = value


class BadNumber(SpanError):
    """A value that is no number, or not one that can stand there."""

    def __init__(self, value):
        super().__init__("this number cannot stand here")
        self.value = value


class BadDigits(SpanError):
    """A value that is no text of digits as told."""

    def __init__(self, value):
        super().__init__("this is no text of digits of the base, as they can stand here")
        self.value = value


class BadRange(SpanError):
    """A pair of values that is no range."""

    def __init__(self, value):
        super().__init__("a range is a number and a greater number")
        self.value = value


class BadRule(SpanError):
    """A rule that cannot stand at its place; the place is None if it is the number of rules that is refused."""

    def __init__(self, place):
        super().__init__("this rule, or this number of rules, cannot stand here")
        self.place = place


class BadReader(SpanError):
    """A value that is no reader."""

    def __init__(self, value):
        super().__init__("a reader is one of the words replace and next")
        self.value = value


class BadManner(SpanError):
    """A value that is no manner."""

    def __init__(self, value):
        super().__init__("a manner is one of the words full and running")
        self.value = value


class BadEntry(SpanError):
    """An item that cannot stand at its place; the place is None if the whole value is no entry."""

    def __init__(self, place):
        super().__init__("this item, or this value, cannot stand as an entry")
        self.place = place


class BadName(SpanError):
    """A value that is no name."""

    def __init__(self, value):
        super().__init__("a name is a text of 1 to 20 letters from a to z")
        self.value = value


class BadText(SpanError):
    """A text that cannot be read, with the line and the word that cannot stand there."""

    def __init__(self, line, word):
        super().__init__("this text cannot be read")
        self.line = line
        self.word = word


class OtherBase(SpanError):
    """Two styles with different bases."""

    def __init__(self):
        super().__init__("the styles have different bases")


class TooMany(OverflowError):
    """More things than there can be."""

    def __init__(self, most):
        super().__init__("there are more things than there can be")
        self.most = most


class Missing(KeyError):
    """A name that is not there."""

    def __init__(self, name):
        super().__init__("this name is not there")
        self.name = name


class NothingLeft(RuntimeError):
    """There is no change left that could be taken back."""

    def __init__(self):
        super().__init__("there is no change left to take back")
