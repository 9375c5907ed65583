"""What the tests share: odd things, and a small family of contents."""

from fewasks.book import Book


def deep_tuple(depth):
    thing = ()
    for _ in range(depth):
        thing = (thing,)
    return thing


def odd_things():
    """Things of each kind that may be handed in where the document says "anything"; no name, content or paper."""
    return [
        None, True, False, -1, -(10 ** 60) + 1, 10 ** 60 - 1, 10 ** 18 + 1, "", "a", "0", "leaf", "tree", "version",
        "line\nend", "tab\t", "\r", "\x00", "\x7f", "\u00e9", chr(37), (), [], {}, (None,), [None], {"a": 1},
        {1: 2}, (True,), ((),), ([],), ({},), ((), [], {}), ("leaf",), ("tree",), ("version",), ["leaf", ()],
        ("leaf", None), ("tree", None), ("version", None), {"leaf": ()}, ((0,), (0,)), ([0], [0]), ((0, 0), ()),
        ("leaf", (), ()), ("tree", (), ()), ("version", (), 0), (1, 2, 3), (None, ()), ((), None), [(), ()],
        deep_tuple(20), [[[[[["x"]]]]]], {"a": {"b": {"c": [(), {}]}}}, ("Leaf", ()), (b"leaf".decode(), [()]),
    ]


class Family:
    """A book with a few things of each kind.

    The versions: first has no parent, left and right are over it, last is over these two.
    """

    def __init__(self):
        self.book = Book()
        self.leaf = self.book.named(("leaf", ("one", "two")))
        self.empty = self.book.named(("leaf", ()))
        self.bare = self.book.named(("tree", ()))
        self.tree = self.book.named(("tree", (("a", self.leaf), ("b", self.bare), ("c", self.leaf))))
        self.first = self.book.named(("version", (), self.bare, 0))
        self.left = self.book.named(("version", (self.first,), self.tree, 1))
        self.right = self.book.named(("version", (self.first,), self.bare, 2))
        self.last = self.book.named(("version", (self.left, self.right), self.tree, 3))
