"""Holdings: views of some names of a book, which never change."""

from fewasks.errors import NoName
from fewasks.forms import is_int


class Holding:
    """Made of names in any order, perhaps some of them twice."""

    def __init__(self, book, names):
        for name in names:
            if not book.is_name(name):
                raise NoName(name)
        self.book = book
        self.inside = {name: True for name in names}
        self.ordered = sorted(self.inside)

    def __len__(self):
        return len(self.ordered)

    def __eq__(self, other):
        # Books have no equality of their own, so this asks for the same object.
        return isinstance(other, Holding) and self.book == other.book and self.ordered == other.ordered

    def __str__(self):
        return " ".join([str(name) for name in self.ordered])

    def holds(self, name):
        return is_int(name) and name in self.inside

    def holds_version(self, thing):
        return self.holds(thing) and self.book.kind(thing) == "version"

    def names(self):
        return list(self.ordered)

    def versions(self):
        return [name for name in self.ordered if self.book.kind(name) == "version"]

    def edges(self):
        """The versions of which some parent is not held."""
        return [version for version in self.versions() if not self.has_parents(version)]

    def has_parents(self, version):
        return all([parent in self.inside for parent in self.book.parents(version)])

    def held_parents(self, version):
        return [parent for parent in self.book.parents(version) if parent in self.inside]
