"""A store of entries in pages."""

from curveyard.errors import NoEntry, Twice
from curveyard.pages import (
    Page, crossing_beneath, entries_beneath, entry_like, put_beneath, root_of, shape_of, taken_beneath,
)


class Store:
    """Entries (first, last, name), kept in order in pages of at most size things."""

    def __init__(self, size):
        self.size = size
        self.root = Page(True, [])

    def put(self, entry):
        """Puts an entry in; refused with Twice."""
        if entry_like(self.root, entry) is not None:
            raise Twice("an entry with that first and that name is there")
        self.root = root_of(put_beneath(self.root, entry, self.size))

    def take(self, entry):
        """Takes an entry out; refused with NoEntry."""
        if entry_like(self.root, entry) != entry:
            raise NoEntry("that very entry is not there")
        self.root = root_of(taken_beneath(self.root, entry, self.size))

    def listed(self):
        """All entries in order."""
        return entries_beneath(self.root)

    def crossing(self, first, last):
        """The entries, in order, that share a number with the stretch from first to last."""
        return crossing_beneath(self.root, first, last)

    def shape(self):
        """The pages, told as plain values."""
        return shape_of(self.root)
