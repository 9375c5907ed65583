"""Points 30 and 31: pack rows, what they cost, how a pack is told in rows, and what a row brings."""

import copy
import random
import unittest

from samples import leafed, odd_things

from fewasks.book import Book
from fewasks.differences import least, price
from fewasks.errors import BadRow
from fewasks.holding import Holding
from fewasks.packrows import opened, row_price, rows_of
from fewasks.packs import OVER, PACK, least_pack, price_of
from fewasks.store import Store


class Family:
    """A book with leaves near one another, trees, and versions; the order of kinds is mixed."""

    def __init__(self):
        self.book = Book()
        self.bare = self.book.named(("tree", ()))
        self.one = self.book.named(("leaf", tuple("abcdefgh")))
        self.root = self.book.named(("version", (), self.bare, 0))
        self.two = self.book.named(("leaf", tuple("abcdefgx")))
        self.tree = self.book.named(("tree", (("a", self.one), ("b", self.two), ("c", self.one))))
        self.empty = self.book.named(("leaf", ()))
        self.other = self.book.named(("version", (), self.tree, 1))
        self.last = self.book.named(("version", (self.root, self.other), self.tree, 2))
        self.deep = self.book.named(("tree", (("t", self.tree),)))
        self.all = tuple(range(len(self.book)))

    def plain(self, name):
        return (name, "plain", self.book.thing(name))


class RowPrice(unittest.TestCase):
    def setUp(self):
        self.family = Family()

    def test_plain_ones(self):
        f = self.family
        for name, due in [(f.one, 16), (f.empty, 0), (f.bare, 0), (f.tree, 6), (f.deep, 2), (f.root, 2), (f.other, 2),
                          (f.last, 6)]:
            self.assertEqual(row_price(f.book, f.plain(name)), due)

    def test_four_parents(self):
        f = self.family
        parents = tuple(f.book.named(("version", (), f.bare, stamp)) for stamp in range(10, 14))
        name = f.book.named(("version", parents, f.bare, 20))
        self.assertEqual(row_price(f.book, f.plain(name)), 10)

    def test_over_a_base(self):
        f = self.family
        for script in [(), (("take", 0, 7), ("put", ("x",))), (("put", tuple("abcdefgh")),), (("take", 0, 1),) * 8]:
            self.assertEqual(row_price(f.book, (f.two, "over", f.one, script)), OVER + price(script))
        self.assertEqual(row_price(f.book, (f.two, "over", f.one, (("take", 0, 7), ("put", ("x",))))), 2 + 3 + 2)


class RowsOf(unittest.TestCase):
    def setUp(self):
        self.family = Family()

    def assert_rows(self, book, names, bases):
        """The rows are of just the names, in their order, right one behind the other, and cost what they must."""
        rows = rows_of(book, names, bases)
        self.assertIsInstance(rows, list)
        self.assertEqual(sorted(row[0] for row in rows), list(names))
        kinds = [book.kind(row[0]) for row in rows]
        self.assertEqual(kinds, sorted(kinds))
        for kind in ("tree", "version"):
            some = [row for row in rows if book.kind(row[0]) == kind]
            self.assertEqual(some, [(name, "plain", book.thing(name)) for name in names if book.kind(name) == kind])
        store = Store(book)
        for base in bases:
            store.put(base)
        many = len(book)
        for row in rows:
            self.assertEqual(opened(book, store.view(), row), row[0])
            self.assertTrue(store.put(row[0]))
        self.assertEqual(len(book), many)
        leaves = tuple(name for name in names if book.kind(name) == "leaf")
        choice = least_pack(book, leaves[:PACK], bases[-PACK:])[0]
        due = price_of(book, choice) + sum(2 * len(book.thing(leaf)[1]) for leaf in leaves[PACK:])
        self.assertEqual(sum(row_price(book, row) for row in rows if book.kind(row[0]) == "leaf"), due)
        for row in rows:
            if row[0] in leaves[PACK:]:
                self.assertEqual(row, (row[0], "plain", book.thing(row[0])))
            if row[1] == "over":
                self.assertIn(row[2], leaves[:PACK] + bases[-PACK:])
        self.assertEqual(rows_of(book, names, bases), rows)
        return rows

    def test_nothing(self):
        self.assertEqual(rows_of(self.family.book, (), ()), [])
        self.assertEqual(rows_of(self.family.book, (), (self.family.one,)), [])

    def test_all_kinds(self):
        f = self.family
        rows = self.assert_rows(f.book, f.all, ())
        self.assertEqual([f.book.kind(row[0]) for row in rows], ["leaf"] * 3 + ["tree"] * 3 + ["version"] * 3)
        self.assertEqual(rows[3:], [f.plain(name) for name in (f.bare, f.tree, f.deep, f.root, f.other, f.last)])
        self.assert_rows(f.book, (f.bare, f.root), ())
        self.assert_rows(f.book, (f.empty,), ())

    def test_over_a_base(self):
        f = self.family
        rows = self.assert_rows(f.book, (f.bare, f.two, f.tree), (f.one,))
        self.assertEqual(rows, [(f.two, "over", f.one, (("take", 0, 7), ("put", ("x",)))), f.plain(f.bare), f.plain(f.tree)])
        self.assertEqual(self.assert_rows(f.book, (f.two,), (f.empty,)), [f.plain(f.two)])

    def test_a_base_that_is_sent_stands_ahead(self):
        # 2 costs 9 from the base, 1 costs 12 from 2 and 13 from the base, 0 costs 12 from 1, else 16 and more.
        book = leafed("KLMNOPefghijkl", "KLMNcdefghijkl", "KLabcdefghijkl", "abcdefghijkl")
        rows = self.assert_rows(book, (0, 1, 2), (3,))
        self.assertEqual([row[:3] for row in rows], [(2, "over", 3), (1, "over", 2), (0, "over", 1)])
        # Each has the rows of the one ahead of it, and four more.
        book = leafed(*[tuple(str(k) for k in range(first, 30)) for first in range(20, 0, -4)])
        rows = self.assert_rows(book, (0, 1, 2, 3, 4), ())
        self.assertEqual([row[1] for row in rows], ["plain", "over", "over", "over", "over"])

    def test_random_ones(self):
        dice = random.Random(30)
        falling = 0
        for _ in range(120):
            core = [dice.choice("abcdef") for _ in range(12)]
            book = leafed(*[tuple(text for text in core if dice.random() < 0.8) for _ in range(9)])
            bases = tuple(sorted(dice.sample(range(len(book)), dice.randrange(3))))
            names = tuple(name for name in range(len(book)) if name not in bases)
            rows = self.assert_rows(book, names, bases)
            falling += any(row[1] == "over" and row[2] in names and row[2] > row[0] for row in rows)
        self.assertGreater(falling, 0)

    def test_more_than_pack_leaves(self):
        book = leafed(*[("x",) * 20 + (str(k),) for k in range(PACK + 10)])
        names = tuple(range(PACK + 10))
        rows = self.assert_rows(book, names, ())
        self.assertEqual([row[1] for row in rows].count("plain"), 1 + 10)
        self.assertEqual([row[1] for row in self.assert_rows(book, names[:PACK], ())].count("plain"), 1)
        self.assertEqual([row[1] for row in self.assert_rows(book, names[:PACK + 1], ())].count("plain"), 2)
        # Those behind the first ones are plain also where a base is near.
        rows = self.assert_rows(book, names[1:], (0,))
        self.assertEqual([row[1] for row in rows].count("plain"), 9)

    def test_more_than_pack_bases(self):
        far = [tuple(f"{k} {at}" for at in range(10)) for k in range(PACK + 1)]
        for at, due in [(0, "plain"), (1, "over"), (PACK, "over")]:
            rows = list(far)
            rows[at] = tuple("abcdefghij")
            book = leafed(*rows, "abcdefghix")
            told = self.assert_rows(book, (PACK + 1,), tuple(range(PACK + 1)))
            self.assertEqual(told[0][1], due)
        book = leafed("abcdefghij", *far[:PACK], "abcdefghix")
        self.assertEqual(self.assert_rows(book, (PACK + 1,), tuple(range(PACK)))[0][:3], (PACK + 1, "over", 0))

    def test_what_is_told_may_be_changed(self):
        f = self.family
        rows = rows_of(f.book, f.all, ())
        before = list(rows)
        rows.clear()
        self.assertEqual(rows_of(f.book, f.all, ()), before)


class Opened(unittest.TestCase):
    SCRIPT = (("take", 0, 7), ("put", ("x",)))

    def setUp(self):
        self.family = Family()
        self.view = Holding(self.family.book, (self.family.one, self.family.bare, self.family.root))

    def over(self, **changed):
        row = {"name": self.family.two, "word": "over", "base": self.family.one, "script": self.SCRIPT, **changed}
        return tuple(row.values())

    def assert_bad(self, row, view=None):
        # A holding of nothing is false, so None alone stands for one that is left out.
        view = self.view if view is None else view
        many = len(self.family.book)
        before = copy.deepcopy(row)
        with self.subTest(str(row)[:70]):
            self.assertRaises(BadRow, opened, self.family.book, view, row)
            self.assertEqual(len(self.family.book), many)
            self.assertEqual(row, before)

    def test_plain_ones(self):
        f = self.family
        for view in [self.view, Holding(f.book, ()), Holding(f.book, f.all)]:
            for name in f.all:
                self.assertEqual(opened(f.book, view, f.plain(name)), name)

    def test_over_a_base(self):
        f = self.family
        self.assertEqual(opened(f.book, self.view, self.over()), f.two)
        self.assertEqual(opened(f.book, self.view, self.over(name=f.empty, script=())), f.empty)
        self.assertEqual(opened(f.book, self.view, self.over(name=f.one, script=(("take", 0, 8),))), f.one)
        dear = (("put", tuple("abcd")), ("take", 4, 1), ("take", 5, 2), ("put", ("x",)))
        self.assertEqual(opened(f.book, self.view, self.over(script=dear)), f.two)
        self.assertEqual(len(self.view), 3)

    def test_a_name_of_another_thing(self):
        f = self.family
        for name in f.all:
            for content in [f.book.thing(other) for other in f.all if other != name]:
                self.assert_bad((name, "plain", content))
            if name != f.two:
                self.assert_bad(self.over(name=name))
        for name in (-1, len(f.book), 10 ** 59, None, "1", (f.two,)):
            self.assert_bad((name, "plain", f.book.thing(f.two)))
            self.assert_bad(self.over(name=name))

    def test_a_content_that_the_book_has_not(self):
        f = self.family
        for content in [("leaf", ("new",)), ("tree", (("new", f.one),)), ("version", (), f.tree, 9), ("leaf", ("x" * 41,)),
                        ("tree", (("a", f.root),)), ("version", (f.one,), f.tree, 1), ("other", ()), ("leaf",), None]:
            for name in (f.one, len(f.book), None):
                self.assert_bad((name, "plain", content))

    def test_kind_for_kind(self):
        book = Book()
        tree = book.named(("tree", ()))
        book.named(("tree", (("a", 0),)))
        version = book.named(("version", (), 1, 0))
        second = book.named(("version", (version,), 0, 1))
        view = Holding(book, (0, 1, 2, 3))
        for row in [(tree, "plain", ("tree", ())), (1, "plain", ("tree", (("a", 0),))), (2, "plain", ("version", (), 1, 0)),
                    (second, "plain", ("version", (2,), 0, 1))]:
            self.assertEqual(opened(book, view, row), row[0])
        for row in [(False, "plain", ("tree", ())), (True, "plain", ("tree", (("a", 0),))),
                    (1, "plain", ("tree", (("a", False),))), (2, "plain", ("version", (), True, 0)),
                    (2, "plain", ("version", (), 1, False)), (3, "plain", ("version", (2,), False, 1)),
                    (3, "plain", ("version", (2,), 0, True)), (0, "plain", ("tree", [])), (0, "plain", ["tree", ()]),
                    (1, "plain", ("tree", (["a", 0],))), (3, "plain", ("version", [2], 0, 1))]:
            with self.subTest(row):
                self.assertRaises(BadRow, opened, book, view, row)

    def test_a_base_that_is_not_held(self):
        f = self.family
        self.assert_bad(self.over(), Holding(f.book, ()))
        self.assert_bad(self.over(), Holding(f.book, [name for name in f.all if name != f.one]))
        self.assertEqual(opened(f.book, Holding(f.book, (f.one,)), self.over()), f.two)

    def test_a_base_that_is_no_leaf(self):
        f = self.family
        whole = Holding(f.book, f.all)
        for base in (f.bare, f.tree, f.root, f.last):
            for script in [self.SCRIPT, (), (("put", tuple("abcdefgx")),)]:
                self.assert_bad(self.over(base=base, script=script), whole)
                self.assert_bad(self.over(name=f.empty, base=base, script=script), whole)
        for base in (-1, len(f.book), 10 ** 59, None, True, False, "1", (f.one,), [f.one]):
            self.assert_bad(self.over(base=base), whole)

    def test_a_truth_for_a_base(self):
        book = leafed("b", "a", "aa")
        view = Holding(book, (0, 1, 2))
        double = (("take", 0, 1), ("take", 0, 1))
        self.assertEqual(opened(book, view, (2, "over", 1, double)), 2)
        self.assertRaises(BadRow, opened, book, view, (2, "over", True, double))
        self.assertEqual(opened(book, view, (1, "over", 2, (("take", 0, 1),))), 1)
        self.assertRaises(BadRow, opened, book, view, (True, "over", 2, (("take", 0, 1),)))

    def test_a_script_that_is_not_right(self):
        for script in [(("take", 0, 9),), (("take", 8, 1),), (("take", 0, 0),), (("put", ()),), list(self.SCRIPT), None,
                       (["take", 0, 7], ("put", ("x",))), (("take", False, 7), ("put", ("x",))), "script", self.SCRIPT * 9,
                       (("take", 0, 7), ("put", ["x"])), (("take", 0, 7), ("put", "x")), self.SCRIPT + ((),)]:
            self.assert_bad(self.over(script=script))

    def test_rows_that_the_book_has_not_or_not_by_this_name(self):
        f = self.family
        for script in [(("take", 0, 7),), (("take", 0, 7), ("put", ("y",))), (("put", ("",)),), (("take", 0, 8),), ()]:
            self.assert_bad(self.over(script=script))
            self.assert_bad(self.over(name=None, script=(("take", 0, 7),)))
        self.assert_bad(self.over(name=f.one))

    def test_words_and_lengths(self):
        f = self.family
        for word in ["Plain", "", "over", None, True, ("plain",), "plain "]:
            self.assert_bad((f.two, word, f.book.thing(f.two)))
        for word in ["plain", "Over", "", None, 0, ("over",)]:
            self.assert_bad(self.over(word=word))
        plain = f.plain(f.two)
        for row in [(), plain[:1], plain[:2], plain + ((),), plain + self.SCRIPT, self.over()[:3], self.over() + ((),),
                    self.over() + (f.two,), plain[1:]]:
            self.assert_bad(row)

    def test_lists_for_tuples(self):
        f = self.family
        self.assert_bad(list(f.plain(f.two)))
        self.assert_bad(list(self.over()))
        self.assert_bad((f.two, "plain", list(f.book.thing(f.two))))
        self.assert_bad((f.two, "plain", ("leaf", list("abcdefgx"))))

    def test_anything(self):
        f = self.family
        for thing in odd_things():
            for row in [thing, (thing, "plain", f.book.thing(f.two)), (f.two, thing, f.book.thing(f.two)),
                        (f.two, "plain", thing), self.over(name=thing), self.over(word=thing), self.over(base=thing),
                        self.over(script=thing), (thing,), (thing, thing, thing), (thing, thing, thing, thing),
                        self.over() + (thing,), f.plain(f.two) + (thing,), self.over(script=self.SCRIPT + (thing,))]:
                self.assert_bad(row)

    def test_least_scripts(self):
        dice = random.Random(31)
        for _ in range(100):
            book = leafed(*[tuple(dice.choice("ab") for _ in range(dice.randrange(8))) for _ in range(5)])
            view = Holding(book, dice.sample(range(len(book)), dice.randrange(len(book) + 1)))
            for base in range(len(book)):
                for leaf in range(len(book)):
                    row = (leaf, "over", base, least(book.thing(base)[1], book.thing(leaf)[1])[0])
                    if view.holds(base):
                        self.assertEqual(opened(book, view, row), leaf)
                    else:
                        self.assertRaises(BadRow, opened, book, view, row)


if __name__ == "__main__":
    unittest.main()
