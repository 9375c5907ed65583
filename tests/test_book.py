"""Points 2, 4 and 5: contents, and the book that names them."""

import unittest

from samples import Family, odd_things

from fewasks.book import MOST, Book
from fewasks.errors import NoName, NoThing, TooMany

PERCENT = chr(37)
SIGNS = "".join(chr(code) for code in range(32, 127) if code != 37)


class ContentCase(unittest.TestCase):
    def setUp(self):
        self.family = Family()
        self.book = self.family.book

    def assert_content(self, thing):
        many = len(self.book)
        self.assertIsNone(self.book.name_of(thing))
        self.assertEqual(self.book.named(thing), many)
        self.assertEqual(len(self.book), many + 1)
        self.assertEqual(self.book.name_of(thing), many)
        self.assertEqual(self.book.thing(many), thing)

    def assert_none(self, thing):
        many = len(self.book)
        with self.assertRaises(NoThing):
            self.book.named(thing)
        self.assertIsNone(self.book.name_of(thing))
        self.assertEqual(len(self.book), many)


class Leaves(ContentCase):
    def test_rows_are_at_most_40(self):
        self.assert_content(("leaf", ("",)))
        self.assert_content(("leaf", tuple(str(k) for k in range(40))))
        self.assert_none(("leaf", tuple(str(k) for k in range(41))))

    def test_texts_have_at_most_40_signs(self):
        self.assert_content(("leaf", ("x" * 40,)))
        self.assert_none(("leaf", ("x" * 41,)))
        self.assert_none(("leaf", ("x", "x" * 41)))

    def test_signs_from_the_blank_to_the_tilde(self):
        for sign in SIGNS:
            with self.subTest(sign):
                self.assert_content(("leaf", (sign + "x",)))

    def test_other_signs(self):
        for sign in [PERCENT, "\n", "\r", "\t", "\x00", "\x1f", "\x7f", "\x80", "\u00a0", "\u00e9", "\U0001f600"]:
            for text in [sign, "x" + sign, sign + "x", "x" + sign + "x"]:
                with self.subTest(text):
                    self.assert_none(("leaf", (text,)))
                    self.assert_none(("leaf", ("good", text, "good")))

    def test_rows_of_other_kinds(self):
        for row in [None, True, 0, (), ["x"], ("x",), {}, b"x"]:
            with self.subTest(row):
                self.assert_none(("leaf", (row,)))
                self.assert_none(("leaf", ("x", row)))

    def test_only_tuples(self):
        for thing in [["leaf", ()], ("leaf", ["x"]), ("leaf", []), ("leaf", "x"), ("leaf", {}), ("leaf", None),
                      ("leaf",), ("leaf", (), ()), ("leaf", "x", "y"), "leaf", ("Leaf", ()), ("leave", ())]:
            with self.subTest(thing):
                self.assert_none(thing)


class Trees(ContentCase):
    def test_entries_are_at_most_20(self):
        entries = tuple((chr(97 + k), self.family.leaf) for k in range(21))
        self.assert_content(("tree", entries[:20]))
        self.assert_none(("tree", entries))

    def test_labels_of_one_to_eight_letters(self):
        for label in ["a", "z", "az", "abcdefgh", "zzzzzzzz"]:
            self.assert_content(("tree", ((label, self.family.leaf),)))
        for label in ["", "abcdefghi", "A", "aB", "a1", "1", "a b", " ", "a-", "a_b", "`", "{", "a\n", "\u00e9", "\u00b5",
                      None, True, 0, ("a",), ["a"]]:
            with self.subTest(label):
                self.assert_none(("tree", ((label, self.family.leaf),)))

    def test_labels_rise(self):
        leaf = self.family.leaf
        self.assert_content(("tree", (("a", leaf), ("aa", leaf), ("b", leaf))))
        for labels in [("b", "a"), ("a", "a"), ("aa", "a"), ("a", "c", "b"), ("a", "b", "b")]:
            with self.subTest(labels):
                self.assert_none(("tree", tuple((label, leaf) for label in labels)))

    def test_names_are_of_leaves_and_trees(self):
        for name in [self.family.leaf, self.family.empty, self.family.bare, self.family.tree]:
            self.assert_content(("tree", (("x", name),)))

    def test_other_names(self):
        for name in [self.family.first, self.family.last, len(self.book), 10 ** 59, -1, -2, True, False, None, "0",
                     (0,), [0]]:
            with self.subTest(name):
                self.assert_none(("tree", (("x", name),)))
                self.assert_none(("tree", (("w", self.family.leaf), ("x", name), ("y", self.family.leaf))))

    def test_only_tuples(self):
        leaf = self.family.leaf
        for thing in [["tree", (("a", leaf),)], ("tree", [("a", leaf)]), ("tree", (["a", leaf],)), ("tree", []),
                      ("tree", {"a": leaf}), ("tree", ("a", leaf)), ("tree", (("a", leaf, leaf),)),
                      ("tree", (("a",),)), ("tree", ((),)), ("tree", (leaf,)), ("tree",), ("tree", (), ()),
                      ("tree", ("ab",)), ("tree", None)]:
            with self.subTest(thing):
                self.assert_none(thing)


class Depth(ContentCase):
    def tower(self, name, high):
        for _ in range(high):
            name = self.book.named(("tree", (("up", name),)))
        return name

    def test_over_a_leaf(self):
        self.assert_none(("tree", (("up", self.tower(self.family.leaf, 8)),)))

    def test_over_a_tree_without_entries(self):
        self.assert_none(("tree", (("up", self.tower(self.family.bare, 7)),)))

    def test_eight_deep_is_a_tree(self):
        self.assert_content(("tree", (("up", self.tower(self.family.leaf, 7)),)))
        self.assert_content(("tree", (("z", self.tower(self.family.bare, 6)),)))

    def test_the_deep_entry_at_any_place(self):
        deep = self.tower(self.family.leaf, 8)
        fair = self.tower(self.family.leaf, 7)
        for place in range(3):
            names = [self.family.leaf, self.family.bare, self.family.leaf]
            names[place] = fair
            self.assert_content(("tree", tuple(zip("abc", names))))
            names[place] = deep
            self.assert_none(("tree", tuple(zip("abc", names))))

    def test_versions_take_the_deepest_root(self):
        self.assert_content(("version", (), self.tower(self.family.leaf, 8), 0))


class Versions(ContentCase):
    def some_versions(self, many):
        return tuple(self.book.named(("version", (), self.family.bare, 100 + k)) for k in range(many))

    def test_parents_are_at_most_four(self):
        parents = self.some_versions(5)
        for many in range(5):
            self.assert_content(("version", parents[:many], self.family.bare, 7))
        self.assert_none(("version", parents, self.family.bare, 7))

    def test_parents_rise(self):
        one, two, three = self.some_versions(3)
        for parents in [(two, one), (one, one), (one, three, two), (one, two, two)]:
            with self.subTest(parents):
                self.assert_none(("version", parents, self.family.bare, 7))

    def test_parents_are_names_of_versions(self):
        for name in [self.family.leaf, self.family.tree, len(self.book), -1, True, False, None, "4", (4,)]:
            with self.subTest(name):
                self.assert_none(("version", (name,), self.family.bare, 7))
        self.assert_none(("version", (self.family.leaf, self.family.last), self.family.bare, 7))
        self.assert_none(("version", (self.family.first, len(self.book)), self.family.bare, 7))

    def test_a_truth_is_no_parent_though_python_takes_it_for_one(self):
        book = Book()
        book.named(("tree", ()))
        book.named(("version", (), 0, 0))
        with self.assertRaises(NoThing):
            book.named(("version", (True,), 0, 0))
        self.assertEqual(book.named(("version", (1,), 0, 0)), 2)
        self.assertIsNone(book.name_of(("version", (True,), 0, 0)))

    def test_root_is_a_tree(self):
        for name in [self.family.leaf, self.family.first, len(self.book), -1, True, False, None, "2", (2,), ()]:
            with self.subTest(name):
                self.assert_none(("version", (), name, 7))

    def test_stamps(self):
        for stamp in [7, 10 ** 18 - 1, 10 ** 18]:
            self.assert_content(("version", (), self.family.bare, stamp))
        self.assertEqual(self.book.name_of(("version", (), self.family.bare, 0)), self.family.first)
        for stamp in [-1, 10 ** 18 + 1, 10 ** 59, True, False, None, "7", (7,)]:
            with self.subTest(stamp):
                self.assert_none(("version", (), self.family.bare, stamp))

    def test_only_tuples(self):
        bare = self.family.bare
        for thing in [["version", (), bare, 7], ("version", [], bare, 7), ("version", {}, bare, 7),
                      ("version", None, bare, 7), ("version", (), bare), ("version", (), bare, 7, 7), ("version", ""),
                      ("version", self.family.first, bare, 7), ("versions", (), bare, 7), ("version",)]:
            with self.subTest(thing):
                self.assert_none(thing)


class Names(unittest.TestCase):
    def test_from_0_on_in_order(self):
        book = Book()
        self.assertEqual(len(book), 0)
        contents = [("leaf", ()), ("leaf", ("a",)), ("tree", ()), ("tree", (("a", 0),)), ("version", (), 2, 5),
                    ("version", (4,), 3, 5), ("leaf", ("a", ""))]
        for name, content in enumerate(contents):
            self.assertEqual(book.named(content), name)
            self.assertEqual(len(book), name + 1)
        for name, content in enumerate(contents):
            self.assertEqual(book.named(tuple(list(content))), name)
            self.assertEqual(book.name_of(content), name)
            self.assertEqual(book.thing(name), content)
        self.assertEqual(len(book), len(contents))

    def test_contents_are_told_apart(self):
        book = Book()
        self.assertEqual([book.named(thing) for thing in [
            ("leaf", ()), ("tree", ()), ("leaf", ("",)), ("leaf", ("", "")), ("leaf", ("a b",)), ("leaf", ("a", "b")),
            ("tree", (("a", 0),)), ("tree", (("b", 0),)), ("tree", (("a", 1),)), ("tree", (("a", 0), ("b", 0))),
            ("version", (), 1, 0), ("version", (), 1, 1), ("version", (), 6, 0), ("version", (10,), 1, 0),
        ]], list(range(14)))

    def test_kind_for_kind(self):
        book = Book()
        for content in [("tree", ()), ("tree", (("a", 0),)), ("version", (), 0, 0), ("version", (), 1, 1)]:
            book.named(content)
        for thing in [("tree", (("a", False),)), ("tree", (("b", True),)), ("version", (), False, 0),
                      ("version", (), True, 1), ("version", (), 0, False), ("version", (), 1, True)]:
            with self.subTest(thing):
                self.assertIsNone(book.name_of(thing))
                self.assertRaises(NoThing, book.named, thing)
        self.assertEqual(len(book), 4)

    def test_parts_and_kinds(self):
        family = Family()
        book = family.book
        self.assertEqual(book.parts(family.leaf), ())
        self.assertEqual(book.parts(family.empty), ())
        self.assertEqual(book.parts(family.bare), ())
        self.assertEqual(book.parts(family.tree), (family.leaf, family.bare, family.leaf))
        self.assertEqual(book.parts(family.first), (family.bare,))
        self.assertEqual(book.parts(family.last), (family.left, family.right, family.tree))
        self.assertIsInstance(book.parts(family.tree), tuple)
        names = [family.leaf, family.bare, family.tree, family.first, family.last]
        self.assertEqual([book.kind(name) for name in names], ["leaf", "tree", "tree", "version", "version"])

    def test_name_of_gives_no_name(self):
        book = Book()
        for thing in [("leaf", ()), ("tree", ()), ("leaf", ("a",))]:
            self.assertIsNone(book.name_of(thing))
        self.assertEqual(len(book), 0)
        self.assertEqual(book.named(("leaf", ("a",))), 0)

    def test_anything_that_is_no_content(self):
        family = Family()
        for thing in [*odd_things(), 0, 1, 7, family.book.thing]:
            many = len(family.book)
            with self.subTest(thing):
                self.assertIsNone(family.book.name_of(thing))
                self.assertRaises(NoThing, family.book.named, thing)
                self.assertEqual(len(family.book), many)

    def test_anything_that_is_no_name_given(self):
        book = Family().book
        for ask in [book.thing, book.kind, book.parts]:
            for thing in [*odd_things(), len(book), ("leaf", ())]:
                with self.subTest(thing):
                    with self.assertRaises(NoName) as caught:
                        ask(thing)
                    self.assertIs(caught.exception.name, thing)
        self.assertRaises(NoName, Book().thing, 0)

    def test_two_books_know_nothing_of_each_other(self):
        one, other = Book(), Book()
        one.named(("leaf", ("x",)))
        one.named(("tree", (("a", 0),)))
        self.assertEqual(len(other), 0)
        self.assertIsNone(other.name_of(("leaf", ("x",))))
        self.assertRaises(NoThing, other.named, ("tree", (("a", 0),)))
        self.assertRaises(NoName, other.thing, 0)
        self.assertEqual(other.named(("tree", ())), 0)
        self.assertEqual(one.kind(0), "leaf")


class Most(unittest.TestCase):
    def setUp(self):
        self.book = Book()
        for k in range(MOST - 1):
            self.book.named(("leaf", (str(k),)))

    def test_most_is_400(self):
        self.assertEqual(MOST, 400)

    def test_the_last_name_and_the_content_behind_it(self):
        self.assertEqual(self.book.named(("tree", ())), 399)
        for content in [("leaf", ("more",)), ("tree", (("a", 0),)), ("version", (), 399, 0)]:
            with self.assertRaises(TooMany):
                self.book.named(content)
            self.assertEqual(len(self.book), 400)
            self.assertIsNone(self.book.name_of(content))
        self.assertRaises(NoName, self.book.thing, 400)

    def test_what_has_a_name_keeps_it(self):
        self.book.named(("tree", ()))
        self.assertEqual(self.book.named(("leaf", ("0",))), 0)
        self.assertEqual(self.book.named(("tree", ())), 399)

    def test_what_is_no_content_is_nothing_even_then(self):
        self.book.named(("tree", ()))
        for thing in [("leaf", ["more"]), ("tree", (("a", 400),)), ("version", (), 0, 0), None]:
            self.assertRaises(NoThing, self.book.named, thing)


if __name__ == "__main__":
    unittest.main()
