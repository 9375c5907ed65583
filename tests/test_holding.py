"""Point 6: holdings."""

import unittest

from samples import Family, odd_things

from fewasks.book import Book
from fewasks.errors import NoName
from fewasks.holding import Holding


class Holdings(unittest.TestCase):
    def setUp(self):
        self.family = Family()
        self.book = self.family.book

    def test_names_in_any_order_some_twice(self):
        for names in [(3, 1, 2), [3, 1, 2], (1, 2, 3), [2, 3, 2, 1, 1], (3, 3, 2, 1)]:
            view = Holding(self.book, names)
            self.assertEqual(view.names(), [1, 2, 3])
            self.assertEqual(len(view), 3)
            self.assertEqual(str(view), "1 2 3")

    def test_field_book(self):
        self.assertIs(Holding(self.book, ()).book, self.book)

    def test_of_no_names(self):
        for names in [(), []]:
            view = Holding(self.book, names)
            self.assertEqual((view.names(), view.versions(), view.edges()), ([], [], []))
            self.assertEqual((len(view), str(view)), (0, ""))
            self.assertFalse(view.holds(0))

    def test_str_of_many(self):
        book = Book()
        names = [book.named(("leaf", (str(k),))) for k in range(12)]
        self.assertEqual(str(Holding(book, names[::-1])), "0 1 2 3 4 5 6 7 8 9 10 11")

    def test_wrong_names(self):
        for thing in [*odd_things(), len(self.book)]:
            for names in [(thing,), [thing], (0, thing), [thing, 0], (0, 1, thing, 0)]:
                with self.subTest(thing):
                    with self.assertRaises(NoName) as caught:
                        Holding(self.book, names)
                    self.assertIs(caught.exception.name, thing)

    def test_the_first_wrong_name_by_place(self):
        for names, first in [((0, 99, -1), 99), ([0, -1, 99], -1), (("x", None), "x"), ([None, "x"], None),
                             ((1, True, 99), True), ((8, 7, 9), 8)]:
            with self.assertRaises(NoName) as caught:
                Holding(self.book, names)
            self.assertIs(caught.exception.name, first)

    def test_holds_of_anything(self):
        view = Holding(self.book, (0, 1, 5))
        self.assertEqual([name for name in range(-2, 12) if view.holds(name)], [0, 1, 5])
        for thing in odd_things():
            with self.subTest(thing):
                self.assertIs(view.holds(thing), False)
        self.assertIs(view.holds(1), True)

    def test_versions(self):
        family = self.family
        names = (family.last, family.leaf, family.tree, family.first)
        self.assertEqual(Holding(self.book, names).versions(), [family.first, family.last])
        self.assertEqual(Holding(self.book, (family.leaf, family.tree)).versions(), [])

    def test_edges(self):
        family = self.family
        first, left, right, last = family.first, family.left, family.right, family.last
        for names, edges in [((first,), []), ((left,), [left]), ((first, left), []), ((left, right), [left, right]),
                             ((left, last), [left, last]), ((last, right, first), [last]), ((last,), [last]),
                             ((first, left, right, last), []), ((left, right, last), [left, right])]:
            with self.subTest(names):
                self.assertEqual(Holding(self.book, names).edges(), edges)
                # Roots and leaves have nothing to do with edges.
                self.assertEqual(Holding(self.book, (*names, family.tree, family.leaf)).edges(), edges)

    def test_equal(self):
        one, other = Holding(self.book, (1, 2)), Holding(self.book, [2, 1, 1])
        self.assertTrue(one == other)
        self.assertFalse(one != other)
        self.assertTrue(Holding(self.book, ()) == Holding(self.book, []))

    def test_not_equal_to_other_names(self):
        one = Holding(self.book, (1, 2))
        for names in [(), (1,), (2,), (1, 3), (1, 2, 3)]:
            self.assertFalse(one == Holding(self.book, names))
            self.assertTrue(one != Holding(self.book, names))

    def test_not_equal_to_one_of_another_book(self):
        same = Family().book
        self.assertEqual([same.thing(k) for k in range(len(same))], [self.book.thing(k) for k in range(len(same))])
        for names in [(), (1, 2)]:
            self.assertFalse(Holding(self.book, names) == Holding(same, names))
            self.assertTrue(Holding(self.book, names) != Holding(same, names))

    def test_not_equal_to_anything_else(self):
        view = Holding(self.book, (1, 2))
        for thing in [*odd_things(), [1, 2], (1, 2), "1 2", 2, self.book, object()]:
            with self.subTest(thing):
                self.assertIs(view == thing, False)
                self.assertIs(view != thing, True)
                self.assertIs(thing == view, False)

    def test_told_lists_may_be_changed(self):
        view = Holding(self.book, (self.family.left, self.family.leaf))
        for ask in [view.names, view.versions, view.edges]:
            told = ask()
            self.assertIsInstance(told, list)
            before = list(told)
            told.append(99)
            told[0] = None
            self.assertEqual(ask(), before)
        self.assertEqual((len(view), str(view)), (2, f"{self.family.leaf} {self.family.left}"))
        self.assertTrue(view == Holding(self.book, (self.family.left, self.family.leaf)))

    def test_what_is_handed_in_is_not_changed_and_may_change_later(self):
        names = [3, 1, 1, 2]
        view = Holding(self.book, names)
        self.assertEqual(names, [3, 1, 1, 2])
        names.append(0)
        names[0] = 7
        self.assertEqual(view.names(), [1, 2, 3])
        self.assertFalse(view.holds(0))

    def test_never_changes_with_the_book(self):
        view = Holding(self.book, (self.family.last,))
        before = (view.names(), view.versions(), view.edges(), len(view), str(view))
        self.book.named(("leaf", ("new",)))
        self.assertEqual((view.names(), view.versions(), view.edges(), len(view), str(view)), before)


if __name__ == "__main__":
    unittest.main()
