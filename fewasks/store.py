"""Stores: what a house holds of its book's names."""

from fewasks.errors import NoName
from fewasks.forms import is_int
from fewasks.holding import Holding


class Store:
    """Holds any names of its book, at first none."""

    def __init__(self, book):
        self.book = book
        self.inside = {}
        self.many_changes = 0

    def __len__(self):
        return len(self.inside)

    def put(self, name):
        """Makes it hold the name, and says whether it did not yet."""
        if not self.book.is_name(name):
            raise NoName(name)
        if name in self.inside:
            return False
        self.inside[name] = True
        self.many_changes += 1
        return True

    def write(self, content):
        name = self.book.named(content)
        self.put(name)
        return name

    def holds(self, name):
        return is_int(name) and name in self.inside

    def held(self):
        return sorted(self.inside)

    def view(self):
        """A holding of what is held now; what is put later does not change it."""
        return Holding(self.book, self.held())

    def changes(self):
        return self.many_changes
