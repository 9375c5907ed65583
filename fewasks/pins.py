"""Pins: names that a house keeps through its sweeps, until they are let go."""

from fewasks.errors import Lack, LetGo, NoName


def check_held(house, names):
    """Refuses the first that is no name in the book, else the first that the house does not hold."""
    for name in names:
        if not house.book.is_name(name):
            raise NoName(name)
    for name in names:
        if not house.holds(name):
            raise Lack(name)


class Pin:
    """On names that its house holds; made by a house's pin alone."""

    def __init__(self, house, names):
        check_held(house, names)
        self.home = house
        self.inside = {name: True for name in names}
        self.is_let_go = False

    def __len__(self):
        return len(self.inside)

    def names(self):
        return sorted(self.inside)

    def add(self, name):
        if self.is_let_go:
            raise LetGo("this pin was let go")
        check_held(self.home, (name,))
        self.inside[name] = True

    def let_go(self):
        self.inside = {}
        self.is_let_go = True
