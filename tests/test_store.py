"""Point 7: stores."""

import unittest

from samples import Family, odd_things

from fewasks.book import MOST, Book
from fewasks.errors import NoName, NoThing, TooMany
from fewasks.holding import Holding
from fewasks.store import Store


class Stores(unittest.TestCase):
    def setUp(self):
        self.family = Family()
        self.book = self.family.book
        self.store = Store(self.book)

    def state(self):
        return (self.store.held(), self.store.changes(), len(self.store), len(self.book))

    def test_at_first_none(self):
        self.assertIs(self.store.book, self.book)
        self.assertEqual(self.state(), ([], 0, 0, len(self.book)))
        self.assertTrue(self.store.view() == Holding(self.book, ()))

    def test_put(self):
        self.assertIs(self.store.put(5), True)
        self.assertIs(self.store.put(2), True)
        self.assertIs(self.store.put(0), True)
        self.assertEqual(self.store.held(), [0, 2, 5])
        self.assertEqual((len(self.store), self.store.changes()), (3, 3))

    def test_put_of_what_is_held(self):
        self.store.put(5)
        before = self.state()
        self.assertIs(self.store.put(5), False)
        self.assertEqual(self.state(), before)

    def test_put_of_anything_that_is_no_name(self):
        self.store.put(0)
        self.store.put(1)
        before = self.state()
        for thing in [*odd_things(), len(self.book), -1, True, False, "1", (1,)]:
            with self.subTest(thing):
                with self.assertRaises(NoName) as caught:
                    self.store.put(thing)
                self.assertIs(caught.exception.name, thing)
                self.assertEqual(self.state(), before)

    def test_parts_need_not_be_held(self):
        self.assertIs(self.store.put(self.family.last), True)
        self.assertEqual(self.store.held(), [self.family.last])

    def test_write_of_what_is_new(self):
        many = len(self.book)
        self.assertEqual(self.store.write(("leaf", ("new",))), many)
        self.assertEqual(self.book.thing(many), ("leaf", ("new",)))
        self.assertEqual(self.state(), ([many], 1, 1, many + 1))

    def test_write_of_what_the_book_has(self):
        many = len(self.book)
        self.assertEqual(self.store.write(("tree", ())), self.family.bare)
        self.assertEqual(self.state(), ([self.family.bare], 1, 1, many))

    def test_write_of_what_is_held(self):
        self.store.put(self.family.bare)
        before = self.state()
        self.assertEqual(self.store.write(("tree", ())), self.family.bare)
        self.assertEqual(self.state(), before)

    def test_write_of_anything_that_is_no_content(self):
        self.store.put(1)
        before = self.state()
        for thing in [*odd_things(), 0, 1, ("leaf", ["x"]), ("tree", (("a", 99),))]:
            with self.subTest(thing):
                self.assertRaises(NoThing, self.store.write, thing)
                self.assertEqual(self.state(), before)

    def test_write_of_one_more_than_most(self):
        while len(self.book) < MOST:
            self.store.write(("leaf", (str(len(self.book)),)))
        before = self.state()
        self.assertRaises(TooMany, self.store.write, ("leaf", ("one more",)))
        self.assertRaises(NoThing, self.store.write, ("leaf", ["one more"]))
        self.assertEqual(self.state(), before)
        self.assertEqual(self.store.write(("tree", ())), self.family.bare)

    def test_holds_of_anything(self):
        for name in (0, 1, 5):
            self.store.put(name)
        self.assertEqual([name for name in range(-2, 12) if self.store.holds(name)], [0, 1, 5])
        self.assertIs(self.store.holds(1), True)
        for thing in odd_things():
            with self.subTest(thing):
                self.assertIs(self.store.holds(thing), False)

    def test_held_may_be_changed_by_whoever_asked(self):
        self.store.put(3)
        told = self.store.held()
        self.assertIsInstance(told, list)
        told.append(4)
        told[0] = 9
        self.assertEqual(self.store.held(), [3])
        self.assertFalse(self.store.holds(4))

    def test_a_view_stays_as_it_was(self):
        self.store.put(self.family.last)
        view = self.store.view()
        self.assertIsInstance(view, Holding)
        self.assertIs(view.book, self.book)
        self.store.put(self.family.left)
        self.store.write(("leaf", ("new",)))
        self.assertEqual(view.names(), [self.family.last])
        self.assertEqual(view.edges(), [self.family.last])
        self.assertFalse(view.holds(self.family.left))
        self.assertTrue(self.store.view() == Holding(self.book, self.store.held()))
        self.assertTrue(self.store.view().holds(self.family.left))

    def test_two_stores_of_one_book(self):
        other = Store(self.book)
        self.store.put(1)
        self.assertEqual((other.held(), other.changes(), len(other)), ([], 0, 0))
        name = other.write(("leaf", ("theirs",)))
        self.assertFalse(self.store.holds(name))
        self.assertIs(self.store.put(name), True)
        self.assertEqual((self.store.changes(), other.changes()), (2, 1))
        self.assertEqual(self.store.write(("leaf", ("theirs",))), name)

    def test_stores_of_two_books(self):
        other = Store(Book())
        self.assertRaises(NoName, other.put, 0)
        self.assertEqual(other.write(("leaf", ())), 0)


if __name__ == "__main__":
    unittest.main()
