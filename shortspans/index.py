"""An index that is edited: names with entries, and a style by which they are written."""

from shortspans.digits import FIGURES, need_number, need_range
from shortspans.entries import entry_text, need_entry, need_manner
from shortspans.errors import BadName, Missing, NothingLeft, OtherBase
from shortspans.pages import noted, plain_entry, struck

LETTERS = "abcdefghijklmnopqrstuvwxyz"
MOST_LETTERS = 20


def need_name(name):
    """Refuse any value that is no name."""
    if not isinstance(name, str) or not 1 <= len(name) <= MOST_LETTERS:
        raise BadName(name)
    if not all([letter in LETTERS for letter in name]):
        raise BadName(name)


def need_item(first, second):
    """The item that is one number, or goes up to a second one that is not None; refuse values that make none."""
    if second is None:
        need_number(first)
        return first
    need_range(first, second)
    return first, second


class Trial:
    """A with statement behind whose block an index is what it was when the block began."""

    def __init__(self, index):
        self.tried_index = index

    def __enter__(self):
        # Copies, because the index goes on with its own dict and list.
        self.saved_style = self.tried_index.stored_style
        self.saved_entries = dict(self.tried_index.stored_entries)
        self.saved_past = list(self.tried_index.past)
        return self.tried_index

    def __exit__(self, kind, value, trace):
        self.tried_index.stored_style = self.saved_style
        self.tried_index.stored_entries = self.saved_entries
        self.tried_index.past = self.saved_past


class Index:
    """Names with their entries; each change can be taken back."""

    def __init__(self, style, *, manner="full"):
        need_manner(manner)
        self.stored_style = style
        self.stored_manner = manner
        self.stored_entries = {}
        # For each change the style ahead of it, and the entries ahead of it of the names that it sets.
        self.past = []

    @property
    def style(self):
        """The style."""
        return self.stored_style

    @style.setter
    def style(self, other):
        if other.base != self.stored_style.base:
            raise OtherBase()
        self.change(other, {})

    @property
    def manner(self):
        """The manner."""
        return self.stored_manner

    def settle(self, style, entries):
        """Take a style, and for some names their entries, or None for a name that is to be gone."""
        self.stored_style = style
        for name in entries:
            if entries[name] is not None:
                self.stored_entries[name] = entries[name]
            elif name in self.stored_entries:
                del self.stored_entries[name]

    def change(self, style, entries):
        """Settle as one change that can be taken back."""
        self.past.append((self.stored_style, {name: self.stored_entries.get(name) for name in entries}))
        self.settle(style, entries)

    def __setitem__(self, name, entry):
        need_name(name)
        need_entry(entry)
        self.change(self.stored_style, {name: plain_entry(entry)})

    def __getitem__(self, name):
        if name not in self:
            raise Missing(name)
        return self.stored_entries[name]

    def __iter__(self):
        raise TypeError("an index is not iterated over")

    def __contains__(self, name):
        # A list or a dict cannot even be looked for among the names.
        return isinstance(name, str) and name in self.stored_entries

    def __len__(self):
        return len(self.stored_entries)

    def __eq__(self, other):
        return (isinstance(other, Index) and self.stored_style == other.stored_style
                and self.stored_manner == other.stored_manner and self.stored_entries == other.stored_entries)

    def forget(self, name):
        """Take the entry of a name out."""
        if name not in self:
            raise Missing(name)
        self.change(self.stored_style, {name: None})

    def names(self):
        """All names, ascending."""
        return tuple(sorted(list(self.stored_entries)))

    def note(self, name, first, second=None):
        """Make the number first, or all from first to second, pages of the entry of a name."""
        need_name(name)
        item = need_item(first, second)
        self.change(self.stored_style, {name: noted(self.stored_entries.get(name, ()), (item,))})

    def strike(self, name, first, second=None):
        """Make the number first, or all from first to second, no pages of the entry of a name."""
        need_name(name)
        item = need_item(first, second)
        self.change(self.stored_style, {name: struck(self[name], item)})

    def __iadd__(self, other):
        if not isinstance(other, Index):
            return NotImplemented
        # All entries are made before the first one is set, so that a refusal changes nothing.
        mine, others = self.stored_entries, other.stored_entries
        self.change(self.stored_style, {name: noted(mine.get(name, ()), others[name]) for name in others})
        return self

    def text(self):
        """A line for each name with the text of its entry."""
        style, manner, entries = self.stored_style, self.stored_manner, self.stored_entries
        return "\n".join([f"{name}: {entry_text(style, manner, entries[name])}" for name in self.names()])

    def cost(self):
        """How many digits stand in the text."""
        text = self.text()
        return sum([text.count(figure) for figure in FIGURES])

    def undo(self):
        """Take the last change back that is not taken back."""
        if len(self.past) == 0:
            raise NothingLeft()
        style, entries = self.past.pop()
        self.settle(style, entries)

    def trial(self):
        """An object for one with statement, behind whose block the index is what it was."""
        return Trial(self)


def tried(index, function):
    """What a function returns of an index, called in a trial."""
    with index.trial() as held:
        return function(held)


def restyled(index, style):
    """The text of an index by another style, which it gets."""
    index.style = style
    return index.text()
