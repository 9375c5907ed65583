"""Points 39, 40 and 41: reading, what lacks, and the log."""

import itertools
import random
import unittest

from samples import Family, SevenVersions, laddered, odd_things, random_book, rowed, towered, versions_of

from fewasks.book import Book
from fewasks.errors import Lack, NoName, NoPath
from fewasks.holding import Holding
from fewasks.house import House
from fewasks.reach import ALL, reached
from fewasks.reading import lacks, log, plain, read
from fewasks.reasons import wanted


class Grove:
    """Leaves x and y; small has a: x, b: y; mid has a: small, c: y; top has a: mid, b: small, d: x; its version."""

    def __init__(self):
        self.book = Book()
        self.x, self.y = [self.book.named(("leaf", (text, "more"))) for text in "xy"]
        self.small = self.tree(a=self.x, b=self.y)
        self.mid = self.tree(a=self.small, c=self.y)
        self.top = self.tree(a=self.mid, b=self.small, d=self.x)
        self.version = self.book.named(("version", (), self.top, 1))

    def tree(self, **entries):
        return self.book.named(("tree", tuple(sorted(entries.items()))))

    def without(self, *names):
        return Holding(self.book, [name for name in range(len(self.book)) if name not in names])


def all_paths(book, root):
    """Every path down from a root, each with the names that stand on it, the root's first."""
    told = [((), [root])]
    for path, names in told:
        if book.kind(names[-1]) == "tree":
            told.extend((path + (label,), names + [name]) for label, name in book.thing(names[-1])[1])
    return told


def due_of(view, version, path):
    """What read shall tell or refuse: point 39, word for word."""
    book = view.book
    if not view.holds(version):
        return (Lack, version)
    name = book.thing(version)[2]
    for at in range(len(path) + 1):
        if not view.holds(name):
            return (Lack, name)
        content = book.thing(name)
        if at == len(path):
            return content if content[0] == "leaf" else ("tree", tuple(label for label, _ in content[1]))
        found = [part for label, part in content[1] if label == path[at]] if content[0] == "tree" else []
        if not found:
            return (NoPath, path[:at + 1])
        name = found[0]


class Case(unittest.TestCase):
    def setUp(self):
        self.grove = Grove()
        self.whole = self.grove.without()

    def assert_refused(self, due, ask, *args, **more):
        error, field = due
        with self.assertRaises(error) as caught:
            ask(*args, **more)
        self.assertIs(type(caught.exception), error)
        told = caught.exception.path if error is NoPath else caught.exception.name
        self.assertEqual(told, field)
        self.assertIs(type(told), type(field))

    def assert_read(self, view, version, path, due=None):
        due = due_of(view, version, path) if due is None else due
        for ask, asked in ((read, view), (plain, view.book)):
            due = due_of(Holding(view.book, range(len(view.book))), version, path) if ask is plain else due
            if isinstance(due[0], str):
                told = ask(asked, version, path)
                self.assertEqual(told, due)
                self.assertIsInstance(told[1], tuple)
            else:
                self.assert_refused(due, ask, asked, version, path)


class Read(Case):
    def test_each_path(self):
        g = self.grove
        for path, due in [((), ("tree", ("a", "b", "d"))), (("a",), ("tree", ("a", "c"))),
                          (("b",), ("tree", ("a", "b"))), (("d",), ("leaf", ("x", "more"))),
                          (("a", "a"), ("tree", ("a", "b"))), (("a", "c"), ("leaf", ("y", "more"))),
                          (("a", "a", "b"), ("leaf", ("y", "more"))), (("b", "a"), ("leaf", ("x", "more")))]:
            self.assertEqual(read(self.whole, g.version, path), due)
            self.assertEqual(plain(g.book, g.version, path), due)

    def test_every_path_down(self):
        for path, names in all_paths(self.grove.book, self.grove.top):
            self.assert_read(self.whole, self.grove.version, path)

    def test_an_empty_tree_and_leaf(self):
        book = Book()
        book.named(("leaf", ()))
        book.named(("tree", (("a", 0),)))
        book.named(("tree", ()))
        book.named(("version", (), 1, 0))
        book.named(("version", (), 2, 0))
        view = Holding(book, range(5))
        self.assertEqual(read(view, 3, ("a",)), ("leaf", ()))
        self.assertEqual(read(view, 4, ()), ("tree", ()))
        self.assertEqual(plain(book, 4, ()), ("tree", ()))

    def test_nowhere(self):
        for path, field in [(("c",), ("c",)), (("c", "a"), ("c",)), (("a", "b"), ("a", "b")),
                            (("a", "b", "c"), ("a", "b")), (("a", "a", "c"), ("a", "a", "c")),
                            (("", "a"), ("",)), (("a", "A", "a"), ("a", "A")), (("no label at all",),) * 2]:
            self.assert_read(self.whole, self.grove.version, path, (NoPath, field))

    def test_below_a_leaf(self):
        for path, field in [(("d", "a"), ("d", "a")), (("d", "a", "b"), ("d", "a")), (("a", "c", "c"), ("a", "c", "c")),
                            (("b", "b", "", ""), ("b", "b", ""))]:
            self.assert_read(self.whole, self.grove.version, path, (NoPath, field))

    def test_each_thing_on_the_way_not_held(self):
        g = self.grove
        path = ("a", "a", "b")
        for name in (g.version, g.top, g.mid, g.small, g.y):
            self.assert_refused((Lack, name), read, g.without(name), g.version, path)
            self.assertEqual(plain(g.book, g.version, path), ("leaf", ("y", "more")))
        self.assertEqual(read(g.without(g.x), g.version, path), ("leaf", ("y", "more")))

    def test_the_first_that_lacks(self):
        g = self.grove
        for names in [(g.version, g.top), (g.top, g.mid, g.y), (g.mid, g.small), (g.small, g.y)]:
            self.assert_refused((Lack, names[0]), read, g.without(*names), g.version, ("a", "a", "b"))

    def test_the_version_and_its_root_for_the_empty_path(self):
        g = self.grove
        self.assert_refused((Lack, g.version), read, g.without(g.version), g.version, ())
        self.assert_refused((Lack, g.top), read, g.without(g.top), g.version, ())
        self.assertEqual(read(g.without(g.mid, g.small, g.x), g.version, ()), ("tree", ("a", "b", "d")))

    def test_lack_or_no_path_whichever_comes_first(self):
        g = self.grove
        self.assert_refused((Lack, g.mid), read, g.without(g.mid), g.version, ("a", "z"))
        self.assert_refused((NoPath, ("z",)), read, g.without(g.mid), g.version, ("z", "a"))
        self.assert_refused((Lack, g.top), read, g.without(g.top), g.version, ("z",))
        self.assert_refused((Lack, g.x), read, g.without(g.x), g.version, ("d", "z"))
        self.assert_refused((NoPath, ("a", "z")), read, g.without(g.small, g.y), g.version, ("a", "z", "a"))

    def test_no_version(self):
        g = self.grove
        view = g.without(g.version)
        for name in [g.x, g.small, g.top, 6, 99, -1, 10 ** 59, *odd_things()]:
            for path in [(), ("a",), ("z",)]:
                self.assert_refused((NoName, name), read, view, name, path)
                self.assert_refused((NoName, name), plain, g.book, name, path)

    def test_random_views_and_paths(self):
        dice = random.Random(39)
        for _ in range(150):
            book = random_book(dice)
            view = Holding(book, [name for name in range(len(book)) if dice.random() < 0.8])
            for version in versions_of(book):
                paths = [path for path, names in all_paths(book, book.thing(version)[2])[:40]]
                paths += [tuple(dice.choices("abcdef", k=dice.randrange(4))) for _ in range(5)]
                for path in paths:
                    self.assert_read(view, version, path)

    def test_plain_names_nothing_and_answers_the_same_again(self):
        g = self.grove
        many = len(g.book)
        self.assertEqual(plain(g.book, g.version, ("a",)), plain(g.book, g.version, ("a",)))
        self.assertEqual(len(g.book), many)


class Lacks(Case):
    def naive(self, view, version, under):
        book, found = view.book, {}
        if not view.holds(version):
            return [(version, ())]
        for path, names in sorted(all_paths(book, book.thing(version)[2])):
            if all(view.holds(name) for name in names[:-1]) and not view.holds(names[-1]):
                if not path or not under or path[0] in under:
                    found.setdefault(names[-1], path)
        return sorted(found.items())

    def assert_lacks(self, view, version, under=()):
        told = lacks(view, version, under=under)
        self.assertIsInstance(told, list)
        self.assertEqual(told, self.naive(view, version, under))
        self.assertEqual(tuple(name for name, path in told), wanted(view, (version,), under=under)[1])
        for name, path in told:
            self.assertIsInstance(path, tuple)
            with self.assertRaises(Lack) as caught:
                read(view, version, path)
            self.assertEqual(caught.exception.name, name)
        self.assertEqual(lacks(view, version, under=under), told)
        return told

    def test_nothing(self):
        self.assertEqual(self.assert_lacks(self.whole, self.grove.version), [])

    def test_the_version_and_the_root(self):
        g = self.grove
        for under in [(), ("a",), ("z",)]:
            self.assertEqual(self.assert_lacks(g.without(g.version), g.version, under), [(g.version, ())])
            self.assertEqual(self.assert_lacks(g.without(g.top), g.version, under), [(g.top, ())])
            self.assertEqual(self.assert_lacks(Holding(g.book, ()), g.version, under), [(g.version, ())])

    def test_of_several_paths_the_least(self):
        g = self.grove
        self.assertEqual(self.assert_lacks(g.without(g.x), g.version), [(g.x, ("a", "a", "a"))])
        self.assertEqual(self.assert_lacks(g.without(g.y), g.version), [(g.y, ("a", "a", "b"))])
        self.assertEqual(self.assert_lacks(g.without(g.small, g.x), g.version), [(g.x, ("d",)), (g.small, ("a", "a"))])
        self.assertEqual(self.assert_lacks(g.without(g.mid, g.y), g.version), [(g.y, ("b", "b")), (g.mid, ("a",))])

    def test_under(self):
        g = self.grove
        view = g.without(g.x, g.y)
        for under, due in [(("a",), [(g.x, ("a", "a", "a")), (g.y, ("a", "a", "b"))]),
                           (("b",), [(g.x, ("b", "a")), (g.y, ("b", "b"))]), (("d",), [(g.x, ("d",))]),
                           (("d", "b"), [(g.x, ("b", "a")), (g.y, ("b", "b"))]), (("c", "zzz"), []),
                           (("zzz", "d"), [(g.x, ("d",))])]:
            self.assertEqual(self.assert_lacks(view, g.version, under), due)

    def test_a_shorter_path_is_less_than_a_longer_one(self):
        book = Book()
        leaf = book.named(("leaf", ()))
        low = book.named(("tree", (("a", leaf),)))
        root = book.named(("tree", (("a", low), ("aa", leaf), ("b", low))))
        version = book.named(("version", (), root, 0))
        view = Holding(book, (low, root, version))
        self.assertEqual(self.assert_lacks(view, version), [(leaf, ("a", "a"))])
        self.assertEqual(self.assert_lacks(view, version, ("aa", "b")), [(leaf, ("aa",))])

    def test_a_thing_reached_by_very_many_paths(self):
        book = towered()
        view = Holding(book, range(1, 10))
        self.assertEqual(lacks(view, 9), [(0, ("a",) * 8)])
        self.assertEqual(lacks(view, 9, under=("t", "c")), [(0, ("c",) + ("a",) * 7)])
        self.assertEqual(lacks(Holding(book, [0, 1, 3, 4, 5, 6, 7, 8, 9]), 9), [(2, ("a",) * 6)])

    def test_all_views(self):
        g = self.grove
        for names in itertools.chain.from_iterable(itertools.combinations(range(6), many) for many in range(7)):
            view = Holding(g.book, names)
            for under in [(), ("a",), ("b", "d"), ("z",)]:
                self.assert_lacks(view, g.version, under)

    def test_random_views(self):
        dice = random.Random(40)
        for _ in range(200):
            book = random_book(dice)
            view = Holding(book, [name for name in range(len(book)) if dice.random() < 0.7])
            for version in versions_of(book):
                self.assert_lacks(view, version, tuple(dice.sample("abcde", dice.randrange(3))))

    def test_no_version(self):
        g = self.grove
        for name in [g.x, g.top, 6, -1, *odd_things()]:
            self.assert_refused((NoName, name), lacks, self.whole, name)

    def test_what_is_told_may_be_changed(self):
        g = self.grove
        view = g.without(g.x)
        lacks(view, g.version).clear()
        self.assertEqual(lacks(view, g.version), [(g.x, ("a", "a", "a"))])

    def test_a_view_of_a_house(self):
        g = self.grove
        house = House(g.book)
        for name in (g.version, g.top, g.x):
            house.put(name)
        self.assertEqual(lacks(house.view(), g.version), [(g.small, ("b",)), (g.mid, ("a",))])
        self.assertEqual(read(house.view(), g.version, ("d",)), ("leaf", ("x", "more")))
        self.assertEqual(log(house.view(), g.version), [(g.version, 1, False)])


class Log(SevenVersions):
    def test_falling_with_stamps(self):
        self.assertEqual(log(self.whole(), 7), [(name, name - 1, False) for name in range(7, 0, -1)])
        self.assertEqual(log(self.whole(), 4), [(4, 3, False), (2, 1, False)])
        self.assertEqual(log(self.whole(), 1), [(1, 0, False)])

    def test_stamps_of_any_size(self):
        family = Family()
        late = family.book.named(("version", (family.last,), family.bare, 10 ** 18))
        view = Holding(family.book, (late, family.last))
        self.assertEqual(log(view, late), [(late, 10 ** 18, False), (family.last, 3, True)])

    def test_deep(self):
        for deep, names in [(0, [7]), (1, [7, 6, 1]), (2, [7, 6, 5, 1]), (ALL, [7, 6, 5, 4, 3, 2, 1])]:
            self.assertEqual(log(self.whole(), 7, deep=deep), [(name, name - 1, False) for name in names])

    def test_edges_whatever_deep_is(self):
        view = self.view(7, 6, 5, 3, 2)
        for deep, due in [(0, [7]), (1, [7, 6]), (2, [7, 6, 5]), (3, [7, 6, 5, 3]), (ALL, [7, 6, 5, 3, 2])]:
            told = log(view, 7, deep=deep)
            self.assertEqual(told, [(name, name - 1, name in (7, 5, 3)) for name in due])
            self.assertTrue(all(isinstance(edge, bool) for _, _, edge in told))

    def test_no_version_then_lack(self):
        family = Family()
        view = Holding(family.book, (0, 1, 2, 3, family.first))
        for ask in (log, lambda view, name: log(view, name, deep=0)):
            for name in [0, 1, 2, 3, 8, -1, *odd_things()]:
                with self.assertRaises(NoName) as caught:
                    ask(view, name)
                self.assertIs(caught.exception.name, name)
            with self.assertRaises(Lack) as caught:
                ask(view, family.last)
            self.assertEqual(caught.exception.name, family.last)

    def test_against_what_is_reached(self):
        dice = random.Random(41)
        for _ in range(100):
            book = random_book(dice, versions=8)
            view = Holding(book, [name for name in range(len(book)) if dice.random() < 0.8])
            for version, deep in itertools.product(view.versions(), (0, 1, 2, ALL)):
                due = [(name, book.thing(name)[3], name in view.edges())
                       for name in reversed(reached(view, (version,), deep=deep))]
                self.assertEqual(log(view, version, deep=deep), due)

    def test_rows_of_hundreds(self):
        view = Holding(rowed(399), range(2, 400))
        told = log(view, 399)
        self.assertEqual(told, [(name, name - 1, name == 2) for name in range(399, 1, -1)])
        self.assertEqual(len(log(Holding(laddered(399), range(400)), 399)), 399)

    def test_what_is_told_may_be_changed(self):
        log(self.whole(), 4).clear()
        self.assertEqual(len(log(self.whole(), 4)), 2)


if __name__ == "__main__":
    unittest.main()
