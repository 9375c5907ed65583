"""What the tests share: odd things, and small families of contents."""

import unittest

from fewasks.book import Book
from fewasks.holding import Holding
from fewasks.house import House

# 1 and 2 have no parents, 3 is over both, 4 over 2 alone, 5 over 3 and 4, 6 over 5, 7 over 1 and 6.
PARENTS = [(), (), (1, 2), (2,), (3, 4), (5,), (1, 6)]


def deep_tuple(depth):
    thing = ()
    for _ in range(depth):
        thing = (thing,)
    return thing


def odd_things():
    """Things of each kind that may be handed in where the document says "anything"; no name, content or paper."""
    return [
        None, True, False, -1, -(10 ** 60) + 1, 10 ** 60 - 1, 10 ** 18 + 1, "", "a", "0", "leaf", "tree", "version",
        "line\nend", "tab\t", "\r", "\x00", "\x7f", "\u00e9", chr(37), (), [], {}, (None,), [None], {"a": 1},
        {1: 2}, (True,), ((),), ([],), ({},), ((), [], {}), ("leaf",), ("tree",), ("version",), ["leaf", ()],
        ("leaf", None), ("tree", None), ("version", None), {"leaf": ()}, ((0,), (0,)), ([0], [0]), ((0, 0), ()),
        ("leaf", (), ()), ("tree", (), ()), ("version", (), 0), (1, 2, 3), (None, ()), ((), None), [(), ()],
        deep_tuple(20), [[[[[["x"]]]]]], {"a": {"b": {"c": [(), {}]}}}, ("Leaf", ()), (b"leaf".decode(), [()]),
    ]


class Family:
    """A book with a few things of each kind.

    The versions: first has no parent, left and right are over it, last is over these two.
    """

    def __init__(self):
        self.book = Book()
        self.leaf = self.book.named(("leaf", ("one", "two")))
        self.empty = self.book.named(("leaf", ()))
        self.bare = self.book.named(("tree", ()))
        self.tree = self.book.named(("tree", (("a", self.leaf), ("b", self.bare), ("c", self.leaf))))
        self.first = self.book.named(("version", (), self.bare, 0))
        self.left = self.book.named(("version", (self.first,), self.tree, 1))
        self.right = self.book.named(("version", (self.first,), self.bare, 2))
        self.last = self.book.named(("version", (self.left, self.right), self.tree, 3))


def grown(parents_of):
    """A book with a tree, named 0, and versions from 1 on, one for each tuple of parents."""
    book = Book()
    book.named(("tree", ()))
    for stamp, parents in enumerate(parents_of):
        book.named(("version", parents, 0, stamp))
    return book


class SevenVersions(unittest.TestCase):
    """Tests over views of the versions of PARENTS."""

    def setUp(self):
        self.book = grown(PARENTS)

    def view(self, *names):
        return Holding(self.book, names)

    def whole(self):
        return self.view(*range(8))


def rowed(many):
    """A book of versions in one row."""
    return grown([(k,) if k else () for k in range(many)])


def laddered(many):
    """A book of versions each over the two ahead of it."""
    return grown([tuple(p for p in (k - 1, k) if p > 0) for k in range(many)])


def leafed(*many_rows):
    """A book of leaves, named from 0 on, one for each tuple of rows or text of rows of one sign."""
    book = Book()
    for rows in many_rows:
        book.named(("leaf", tuple(rows)))
    return book


def shapes_of(many):
    """Every shape of the versions from 0 to many - 1."""
    pairs = [(upper, lower) for upper in range(many) for lower in range(upper)]
    for chosen in range(2 ** len(pairs)):
        yield (tuple(range(many)), tuple(pair for at, pair in enumerate(pairs) if chosen >> at & 1))


def random_shape(dice, many, links, span):
    """A shape of so many versions, with gaps between them, and about so many links over at most span versions."""
    versions = sorted(dice.sample(range(3 * many), many))
    pairs = set()
    for _ in range(links if many > 1 else 0):
        upper = dice.randrange(1, many)
        lower = dice.randrange(max(0, upper - span), upper)
        pairs.add((versions[upper], versions[lower]))
    return (tuple(versions), tuple(sorted(pairs)))


def ladder(many):
    """Each version over the two ahead of it: the rows of links are far too many to be gone through."""
    links = [(upper, lower) for upper in range(many) for lower in (upper - 2, upper - 1) if lower >= 0]
    return (tuple(range(many)), tuple(links))


def strands(many, width):
    """So many versions in as many chains as width says, side by side."""
    return (tuple(range(many)), tuple((upper, upper - width) for upper in range(width, many)))


def naive_below(shape, version):
    """All that are below a version, without itself, by going on until nothing new comes."""
    found = set()
    while True:
        more = {lower for upper, lower in shape[1] if upper == version or upper in found}
        if more <= found:
            return found
        found |= more


def random_book(dice, leaves=4, trees=6, versions=6):
    """A book of leaves, trees over them and versions over one another, many of them with the same parts."""
    book = Book()
    for k in range(leaves):
        book.named(("leaf", tuple(dice.choice("abcd") for _ in range(dice.randrange(6))) + (str(k),)))
    things = list(range(leaves))
    for _ in range(trees):
        labels = sorted(dice.sample("abcde", dice.randrange(5)))
        shallow = [name for name in things if book.depth(book.thing(name)) < 8]
        things.append(book.named(("tree", tuple((label, dice.choice(shallow)) for label in labels))))
    roots = [name for name in set(things) if book.kind(name) == "tree"]
    told = []
    for stamp in range(versions):
        parents = dice.sample(told, min(len(told), dice.choice([0, 1, 1, 1, 2, 3])))
        told.append(book.named(("version", tuple(sorted(parents)), dice.choice(sorted(roots)), stamp)))
    return book


def versions_of(book):
    return [name for name in range(len(book)) if book.kind(name) == "version"]


def towered(width=20, height=8):
    """A book with a leaf and trees, each of which has width entries to the one beneath, and a version of the top."""
    book = Book()
    below = book.named(("leaf", ("at the bottom",)))
    labels = [chr(ord("a") + k) for k in range(width)]
    for _ in range(height):
        below = book.named(("tree", tuple((label, below) for label in labels)))
    book.named(("version", (), below, 0))
    return book


class Hamlet:
    """Two houses of one book, rows in whose talk can be told beforehand.

    The leaf two is near to one. old has doc: one, src: low, new has doc: two, src: low, low has m: other.
    first has the root old; second is over it, third over second, side over first; all these are there alone but first.
    mine is over first and own over mine; these are here alone.
    """

    def __init__(self):
        self.book = Book()
        self.one = self.book.named(("leaf", tuple("abcdef")))
        self.two = self.book.named(("leaf", tuple("abcdex")))
        self.other = self.book.named(("leaf", ("z",)))
        self.low = self.book.named(("tree", (("m", self.other),)))
        self.old = self.book.named(("tree", (("doc", self.one), ("src", self.low))))
        self.new = self.book.named(("tree", (("doc", self.two), ("src", self.low))))
        self.bare = self.book.named(("tree", ()))
        self.first = self.book.named(("version", (), self.old, 10))
        self.second = self.book.named(("version", (self.first,), self.new, 11))
        self.third = self.book.named(("version", (self.second,), self.bare, 12))
        self.side = self.book.named(("version", (self.first,), self.new, 13))
        self.mine = self.book.named(("version", (self.first,), self.old, 14))
        self.own = self.book.named(("version", (self.mine,), self.bare, 15))
        self.there = housed(self.book, range(11), main=self.third, side=self.side)
        self.here = housed(self.book, (self.one, self.other, self.low, self.old, self.bare, self.first, self.mine,
                                       self.own))


def housed(book, names, **marks):
    """A house that holds the names, with these marks."""
    house = House(book)
    for name in names:
        house.put(name)
    for mark, version in marks.items():
        house.move(mark, old=None, new=version)
    return house


def house_state(house):
    return (house.held(), len(house), house.changes(), house.marks(), house.trail(), house.far(), house.roots())


def talked(asker, teller, most=1000):
    """The rows and answers of a talk, at most so many."""
    told = []
    while not asker.over() and len(told) < most:
        row = asker.say()
        told.append((row, teller.answer(row)))
        asker.hear(told[-1][1])
    return told
