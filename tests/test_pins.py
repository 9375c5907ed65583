"""Point 36: pins."""

import itertools
import unittest

from samples import Family, odd_things

from fewasks.errors import Lack, LetGo, NoName
from fewasks.house import House
from fewasks.pins import Pin


class Pins(unittest.TestCase):
    def setUp(self):
        self.family = Family()
        self.book = self.family.book
        self.house = House(self.book)
        for name in range(6):
            self.house.put(name)

    def state(self):
        return (self.house.roots(), self.house.held(), self.house.changes(), self.house.marks(), self.house.far())

    def assert_refused(self, error, name, ask, *args):
        before = self.state()
        with self.assertRaises(error) as caught:
            ask(*args)
        self.assertIs(caught.exception.name, name)
        self.assertEqual(self.state(), before)

    def test_names_of_any_kind(self):
        pin = self.house.pin((0, 1, 2, 3, 4, 5))
        self.assertIsInstance(pin, Pin)
        self.assertEqual(pin.names(), [0, 1, 2, 3, 4, 5])
        self.assertEqual(len(pin), 6)

    def test_no_names(self):
        pin = self.house.pin(())
        self.assertEqual((pin.names(), len(pin), self.house.roots()), ([], 0, []))
        self.assertIsNone(pin.add(3))
        self.assertEqual((pin.names(), len(pin), self.house.roots()), ([3], 1, [3]))

    def test_any_order_and_twice(self):
        for names in itertools.permutations((4, 1, 3, 1)):
            pin = self.house.pin(names)
            self.assertEqual((pin.names(), len(pin)), ([1, 3, 4], 3))
            pin.let_go()

    def test_first_by_place_that_is_no_name(self):
        for names, due in [((8, 99), 8), ((99, 8), 99), ((1, -1, 8), -1), ((1, 2, 8), 8), ((-5,), -5)]:
            self.assert_refused(NoName, due, self.house.pin, names)

    def test_first_by_place_that_is_not_held(self):
        for names, due in [((6, 7), 6), ((7, 6), 7), ((1, 7, 2), 7), ((1, 2, 6), 6)]:
            self.assert_refused(Lack, due, self.house.pin, names)

    def test_no_name_ahead_of_lack_wherever_it_stands(self):
        for names, due in [((6, 8), 8), ((8, 6), 8), ((7, 1, 6, 99, 8), 99)]:
            self.assert_refused(NoName, due, self.house.pin, names)

    def test_odd_things_are_no_names(self):
        pin = self.house.pin((2,))
        for thing in odd_things():
            self.assert_refused(NoName, thing, self.house.pin, (1, thing, 7))
            self.assert_refused(NoName, thing, pin.add, thing)
        self.assertEqual(pin.names(), [2])

    def test_add(self):
        pin = self.house.pin((4,))
        self.assertIsNone(pin.add(1))
        self.assertEqual((pin.names(), len(pin)), ([1, 4], 2))
        self.assertEqual(self.house.roots(), [1, 4])
        self.assertIsNone(pin.add(1))
        self.assertIsNone(pin.add(4))
        self.assertEqual((pin.names(), len(pin)), ([1, 4], 2))

    def test_add_refused(self):
        pin = self.house.pin((4,))
        self.assert_refused(NoName, 8, pin.add, 8)
        self.assert_refused(NoName, -1, pin.add, -1)
        self.assert_refused(Lack, 6, pin.add, 6)
        self.assertEqual(pin.names(), [4])
        self.house.put(6)
        pin.add(6)
        self.assertEqual(pin.names(), [4, 6])

    def test_let_go_ahead_of_all_else(self):
        pin = self.house.pin((4, 2))
        self.assertIsNone(pin.let_go())
        self.assertEqual((pin.names(), len(pin), self.house.roots()), ([], 0, []))
        for name in (1, 4, 6, 8, -1):
            self.assertRaises(LetGo, pin.add, name)
            self.assertEqual((pin.names(), len(pin), self.house.roots()), ([], 0, []))

    def test_let_go_twice(self):
        pin, other = self.house.pin((4, 2)), self.house.pin((2,))
        pin.let_go()
        self.assertIsNone(pin.let_go())
        self.assertEqual((pin.names(), other.names(), self.house.roots()), ([], [2], [2]))

    def test_several_pins_on_one_name(self):
        pins = [self.house.pin((3,)) for _ in range(3)]
        for pin in pins:
            self.assertEqual(self.house.roots(), [3])
            pin.let_go()
        self.assertEqual(self.house.roots(), [])

    def test_pins_stay_when_others_are_made_and_let_go(self):
        first, empty = self.house.pin((0,)), self.house.pin(())
        for name in range(1, 5):
            self.house.pin((name,)).let_go()
        empty.add(5)
        self.assertEqual(self.house.roots(), [0, 5])
        first.let_go()
        last = self.house.pin((2,))
        self.assertEqual(self.house.roots(), [2, 5])
        self.assertEqual((first.names(), empty.names(), last.names()), ([], [5], [2]))

    def test_names_may_be_changed_by_whoever_asked(self):
        pin = self.house.pin((4, 2))
        told = pin.names()
        told.append(0)
        self.assertEqual((pin.names(), len(pin)), ([2, 4], 2))

    def test_what_is_pinned_is_held_behind_a_sweep(self):
        pin = self.house.pin((self.family.leaf,))
        self.house.sweep()
        self.assertEqual(self.house.held(), [self.family.leaf])
        self.assert_refused(Lack, self.family.first, pin.add, self.family.first)
        pin.let_go()
        self.assertEqual(self.house.sweep(), [self.family.leaf])

    def test_a_pin_of_another_house(self):
        other = House(self.book)
        other.put(1)
        pin = other.pin((1,))
        self.assert_refused(Lack, 2, pin.add, 2)
        self.assertEqual((self.house.roots(), other.roots()), ([], [1]))


if __name__ == "__main__":
    unittest.main()
