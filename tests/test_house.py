"""Points 7, 33, 34, 35 and 38: houses, their marks, far marks and sweeps."""

import itertools
import random
import unittest

from samples import Family, grown, house_state, odd_things, random_book, rowed, versions_of

from fewasks.asks import most_asks, next_asks
from fewasks.book import MOST, Book
from fewasks.chains import cover
from fewasks.errors import HouseError, Lack, NoMark, NoName, NotAhead, NoThing, Stale, TooMany
from fewasks.holding import Holding
from fewasks.house import LAST, House
from fewasks.keeping import keeping
from fewasks.packrows import opened, rows_of
from fewasks.reach import ALL, missing, reached, right_ways, ways
from fewasks.reasons import reasons, right_reasons, wanted
from fewasks.shapes import shape
from fewasks.store import Store
from fewasks.ways import right_way, way

NO_LABELS = ["", "A", "aB", "abcdefghi", "a b", "a1", "a\n", "\u00e9", ("a",), ["a"], {"a": 1}, 5, True, None]


def marks_and_trail(house):
    return (house.marks(), house.trail())


class Case(unittest.TestCase):
    """A house over the family; it does not hold right."""

    def setUp(self):
        self.family = Family()
        self.book = self.family.book
        self.house = self.new_house()

    def new_house(self):
        house = House(self.book)
        for name in range(len(self.book)):
            if name != self.family.right:
                house.put(name)
        return house

    def assert_refused(self, error, fields, ask, *args, house=None, **more):
        house = house or self.house
        before = house_state(house)
        with self.assertRaises(error) as caught:
            ask(*args, **more)
        self.assertIs(type(caught.exception), error)
        for field, value in fields.items():
            told = getattr(caught.exception, field)
            self.assertEqual(told, value)
            self.assertIs(type(told), type(value))
        self.assertEqual(house_state(house), before)


class Houses(Case):
    def test_is_a_store(self):
        house = House(self.book)
        self.assertIsInstance(house, Store)
        self.assertIs(house.book, self.book)
        self.assertEqual(house_state(house), ([], 0, 0, [], [], [], []))
        self.assertEqual((house.kept(), house.sweep()), ([], []))

    def test_its_methods_stand_in_the_class_itself(self):
        for word in "marks at move move_all trail far set_far pin roots kept sweep".split():
            self.assertIn(word, vars(House))

    def test_put_write_holds_view(self):
        house = House(self.book)
        self.assertIs(house.put(5), True)
        self.assertIs(house.put(5), False)
        self.assertEqual(house.write(("tree", ())), self.family.bare)
        many = len(self.book)
        self.assertEqual(house.write(("leaf", ("new",))), many)
        self.assertEqual((house.held(), house.changes(), len(house)), ([2, 5, many], 3, 3))
        self.assertTrue(house.view() == Holding(self.book, (2, 5, many)))
        for thing in odd_things():
            self.assertIs(house.holds(thing), False)
            self.assert_refused(NoName, {"name": thing}, house.put, thing, house=house)
            self.assert_refused(NoThing, {}, house.write, thing, house=house)

    def test_write_of_one_more_than_most(self):
        house = House(Book())
        for k in range(MOST):
            house.write(("leaf", (str(k),)))
        self.assert_refused(TooMany, {}, house.write, ("leaf", ("one more",)), house=house)

    def test_views_of_a_house_serve_all_that_views_serve(self):
        f, view = self.family, self.house.view()
        self.assertEqual(shape(view, ()), ((f.first, f.left, f.last), ((f.left, f.first), (f.last, f.left))))
        self.assertEqual(shape(view, (f.last,))[1], ((f.left, f.first),))
        self.assertEqual(most_asks(cover(shape(view, ()))), 2)
        self.assertEqual(next_asks(shape(view, ()), cover(shape(view, ())), ()), (f.left,))
        self.assertEqual(reached(view, (f.last,)), (f.first, f.left, f.last))
        self.assertEqual(missing(view, (f.last,)), (f.right,))
        self.assertIs(right_ways(view, (f.last,), ways(view, (f.last,))), True)
        self.assertEqual(wanted(view, (f.last,), under=("a",)), ((f.leaf, f.tree, f.last), ()))
        self.assertIs(right_reasons(view, (f.last,), reasons(view, (f.last,))), True)
        self.assertIs(right_way(view, f.first, f.last, way(view, f.first, f.last)), True)
        for row in rows_of(self.book, (f.leaf, f.tree, f.last), (f.empty,)):
            self.assertEqual(opened(self.book, view, row), row[0])


class Move(Case):
    def test_set(self):
        self.assertIsNone(self.house.move("main", old=None, new=self.family.first))
        self.assertEqual(self.house.marks(), [("main", self.family.first)])
        self.assertEqual(self.house.at("main"), self.family.first)
        self.assertEqual(self.house.trail(), [("main", None, self.family.first, False)])

    def test_by_one_and_two_steps(self):
        f = self.family
        self.house.move("main", old=None, new=f.first)
        self.assertEqual(self.house.move("main", old=f.first, new=f.left), ("ahead", (f.left, f.first)))
        self.assertEqual(self.house.move("main", old=f.left, new=f.last), ("ahead", (f.last, f.left)))
        self.house.move("other", old=None, new=f.first)
        self.assertEqual(self.house.move("other", old=f.first, new=f.last, back=False),
                         ("ahead", (f.last, f.left, f.first)))
        self.assertEqual(self.house.marks(), [("main", f.last), ("other", f.last)])

    def test_by_hundreds_of_steps(self):
        house = House(rowed(399))
        for name in range(400):
            house.put(name)
        house.move("far", old=None, new=1)
        self.assertEqual(house.move("far", old=1, new=399), ("ahead", tuple(range(399, 0, -1))))
        self.assert_refused(NotAhead, {"mark": "far", "why": ("apart", tuple(range(1, 399)), ())}, house.move, "far",
                            old=399, new=398, house=house)
        self.assertEqual(house.move("far", old=399, new=2, back=True), ("apart", (1, 2), ()))

    def test_to_where_it_stands(self):
        f = self.family
        self.house.move("main", old=None, new=f.left)
        for back in (False, True):
            self.assertEqual(self.house.move("main", old=f.left, new=f.left, back=back), ("ahead", (f.left,)))
        self.assertEqual(len(self.house.trail()), 3)

    def test_taken_away(self):
        f = self.family
        self.house.move("main", old=None, new=f.left)
        self.assertIsNone(self.house.move("main", old=f.left, new=None, back=True))
        self.assertEqual(self.house.marks(), [])
        self.assertEqual(self.house.trail()[-1], ("main", f.left, None, True))
        self.assert_refused(NoMark, {"mark": "main"}, self.house.at, "main")

    def test_taken_away_where_there_is_none(self):
        self.assertIsNone(self.house.move("main", old=None, new=None, back=True))
        self.assertEqual(marks_and_trail(self.house), ([], [("main", None, None, True)]))

    def test_back(self):
        f = self.family
        self.house.move("main", old=None, new=f.last)
        self.assertEqual(self.house.move("main", old=f.last, new=f.first, back=True), ("apart", (f.first,), ()))
        self.assertEqual(self.house.at("main"), f.first)
        self.assertEqual(self.house.move("main", old=f.first, new=f.last, back=True)[0], "ahead")
        self.house.put(f.right)
        self.house.move("main", old=f.last, new=f.left, back=True)
        self.assertEqual(self.house.move("main", old=f.left, new=f.right, back=True), ("apart", (f.first, f.right), ()))

    def test_changes_do_not_grow(self):
        before = self.house.changes()
        self.house.move("main", old=None, new=self.family.first)
        self.house.set_far("other", "main", self.family.first)
        self.assertEqual(self.house.changes(), before)

    def test_marks_rise(self):
        for mark in ["b", "ab", "zz", "a", "abcdefgh", "z"]:
            self.house.move(mark, old=None, new=self.family.first)
        self.assertEqual([mark for mark, version in self.house.marks()], ["a", "ab", "abcdefgh", "b", "z", "zz"])

    def test_what_is_told_may_be_changed(self):
        self.house.move("main", old=None, new=self.family.first)
        before = house_state(self.house)
        for told in (self.house.marks(), self.house.trail(), self.house.far(), self.house.roots(), self.house.kept(),
                     self.house.held()):
            told.append(None)
            told[0] = None
        self.assertEqual(house_state(self.house), before)

    def test_lists_told_ahead_stay(self):
        self.house.move("main", old=None, new=self.family.first)
        before = marks_and_trail(self.house)
        copies = tuple(list(told) for told in before)
        self.house.move("main", old=self.family.first, new=self.family.left)
        self.house.move("new", old=None, new=self.family.left)
        self.assertEqual(before, copies)


class Refusals(Case):
    """Each refusal of move by itself, and each two at once."""

    def setUp(self):
        Case.setUp(self)
        self.house.move("main", old=None, new=self.family.left)

    def refused(self, error, fields, mark, **more):
        self.assert_refused(error, fields, self.house.move, mark, **more)

    def test_no_label(self):
        f = self.family
        for mark in [*NO_LABELS, *odd_things()]:
            if mark in ("a", "leaf", "tree", "version"):
                continue
            self.refused(NoMark, {"mark": mark}, mark, old=None, new=f.first)
            for new in (None, f.right, f.tree, 99, -1, f.first):
                self.refused(NoMark, {"mark": mark}, mark, old=f.last, new=new)
                self.refused(NoMark, {"mark": mark}, mark, old=None, new=new, back=True)

    def test_new_is_no_version(self):
        f = self.family
        for new in [f.leaf, f.empty, f.bare, f.tree, 8, 99, 10 ** 59, -1, -2]:
            self.refused(NoName, {"name": new}, "main", old=f.left, new=new)
            self.refused(NoName, {"name": new}, "main", old=f.left, new=new, back=True)
            self.refused(NoName, {"name": new}, "main", old=f.first, new=new)
            self.refused(NoName, {"name": new}, "new", old=None, new=new)
            self.refused(NoName, {"name": new}, "new", old=f.last, new=new)
        for new in odd_things():
            if new is not None:
                self.refused(NoName, {"name": new}, "main", old=f.left, new=new)

    def test_new_is_not_held(self):
        f = self.family
        for old, back in itertools.product((None, f.first, f.left, f.last, f.right, 99), (False, True)):
            self.refused(Lack, {"name": f.right}, "main", old=old, new=f.right, back=back)
            self.refused(Lack, {"name": f.right}, "new", old=old, new=f.right, back=back)

    def test_stale(self):
        f = self.family
        for old, back in itertools.product((None, f.first, f.last, f.right, f.tree, 99, -1), (False, True)):
            self.refused(Stale, {"mark": "main", "there": f.left}, "main", old=old, new=f.last, back=back)
            self.refused(Stale, {"mark": "main", "there": f.left}, "main", old=old, new=f.first, back=back)
            self.refused(Stale, {"mark": "main", "there": f.left}, "main", old=old, new=None, back=back)
            self.refused(Stale, {"mark": "main", "there": f.left}, "main", old=old, new=f.left, back=back)

    def test_stale_where_there_is_none(self):
        f = self.family
        for old, new in itertools.product((f.first, f.left, f.right, 0, 99, -1), (None, f.first, f.left, f.last)):
            for back in (False, True):
                self.refused(Stale, {"mark": "new", "there": None}, "new", old=old, new=new, back=back)

    def test_a_truth_is_no_name_to_stand_on(self):
        house = House(grown([(), (1,)]))
        for name in range(3):
            house.put(name)
        house.move("main", old=None, new=1)
        self.assert_refused(Stale, {"mark": "main", "there": 1}, house.move, "main", old=True, new=2, house=house)
        self.assert_refused(NoName, {"name": True}, house.move, "main", old=1, new=True, house=house)

    def test_not_ahead_without_new(self):
        f = self.family
        self.refused(NotAhead, {"mark": "main", "why": None}, "main", old=f.left, new=None)
        self.refused(NotAhead, {"mark": "main", "why": None}, "main", old=f.left, new=None, back=False)
        self.refused(NotAhead, {"mark": "new", "why": None}, "new", old=None, new=None)

    def test_not_ahead(self):
        f = self.family
        self.refused(NotAhead, {"mark": "main", "why": ("apart", (f.first,), ())}, "main", old=f.left, new=f.first)
        self.house.put(f.right)
        why = ("apart", (f.first, f.right), ())
        self.refused(NotAhead, {"mark": "main", "why": why}, "main", old=f.left, new=f.right, back=False)

    def test_not_ahead_where_what_lies_between_is_not_held(self):
        house = House(grown([(), (1,), (2,)]))
        for name in (0, 1, 3):
            house.put(name)
        house.move("main", old=None, new=1)
        self.assert_refused(NotAhead, {"mark": "main", "why": ("apart", (3,), (3,))}, house.move, "main", old=1, new=3,
                            house=house)
        house.put(2)
        self.assertEqual(house.move("main", old=1, new=3), ("ahead", (3, 2, 1)))

    def test_at(self):
        for mark in [*NO_LABELS, *odd_things(), "new", "mai", "mainx"]:
            self.assert_refused(NoMark, {"mark": mark}, self.house.at, mark)


class MoveAll(Case):
    def test_none(self):
        self.assertEqual(self.house.move_all(()), [])
        self.assertEqual(marks_and_trail(self.house), ([], []))

    def test_each_at_what_those_ahead_left(self):
        f = self.family
        moves = (("main", None, f.first, False), ("main", f.first, f.left, False), ("new", None, f.last, True),
                 ("main", f.left, f.first, True), ("new", f.last, None, True), ("main", f.first, f.last, False))
        due = [None, ("ahead", (f.left, f.first)), None, ("apart", (f.first,), ()), None,
               ("ahead", (f.last, f.left, f.first))]
        told = self.house.move_all(moves)
        self.assertIsInstance(told, list)
        self.assertEqual(told, due)
        self.assertEqual(marks_and_trail(self.house), ([("main", f.last)], list(moves)))

    def wrongs(self):
        f = self.family
        return [(("A", None, f.first, False), NoMark, {"mark": "A"}),
                (("main", f.left, f.tree, False), NoName, {"name": f.tree}),
                (("main", f.left, f.right, True), Lack, {"name": f.right}),
                (("main", f.last, f.last, True), Stale, {"mark": "main", "there": f.left}),
                (("main", f.left, f.first, False), NotAhead, {"mark": "main", "why": ("apart", (f.first,), ())}),
                (("main", f.left, None, False), NotAhead, {"mark": "main", "why": None})]

    def test_one_refused_at_each_place(self):
        f = self.family
        right = (("main", f.left, f.left, False), ("new", None, f.first, False), ("old", f.first, None, True),
                 ("new", f.first, f.left, False))
        for wrong, error, fields in self.wrongs():
            for at in range(len(right) + 1):
                self.house = self.new_house()
                self.house.move("main", old=None, new=f.left)
                self.house.move("old", old=None, new=f.first)
                self.assert_refused(error, fields, self.house.move_all, right[:at] + (wrong,) + right[at:])
                self.house.move_all(right)
                self.assertEqual(self.house.marks(), [("main", f.left), ("new", f.left)])
                self.assertEqual(len(self.house.trail()), 6)

    def test_the_first_refusal_is_given(self):
        f = self.family
        self.house.move("main", old=None, new=f.left)
        for (one, error, fields), (two, _, _) in itertools.permutations(self.wrongs(), 2):
            self.assert_refused(error, fields, self.house.move_all, (one, two))

    def test_a_long_trail_is_brought_back(self):
        f = self.family
        moves = tuple(("main", None if k == 0 else f.left, f.left, False) for k in range(LAST + 5))
        self.house.move_all(moves)
        more = tuple(("main", f.left, f.left, True) for _ in range(LAST)) + (("main", None, f.left, True),)
        self.assert_refused(Stale, {"mark": "main", "there": f.left}, self.house.move_all, more)
        self.assertEqual(self.house.trail(), list(moves[-LAST:]))


class Trail(Case):
    def test_last_is_fifty(self):
        self.assertEqual(LAST, 50)

    def test_the_last_moves_the_eldest_first(self):
        first = self.family.first
        for many in (0, 1, LAST - 1, LAST, LAST + 1, 3 * LAST):
            house = self.new_house()
            due = []
            for k in range(many):
                due.append(("main", None if k == 0 else first, first, k % 3 == 0))
                house.move("main", old=due[-1][1], new=first, back=due[-1][3])
            self.assertEqual(house.trail(), due[-LAST:])

    def test_more_marks_than_it_tells(self):
        words = ["".join(pair) for pair in itertools.product("abcdefghij", repeat=2)]
        for mark in words:
            self.house.move(mark, old=None, new=self.family.first)
        self.assertEqual(self.house.marks(), [(mark, self.family.first) for mark in words])
        self.assertEqual(self.house.trail(), [(mark, None, self.family.first, False) for mark in words[-LAST:]])


class Far(Case):
    def test_set_and_in_place_of_one(self):
        f = self.family
        self.assertIsNone(self.house.set_far("town", "main", f.first))
        self.assertEqual(self.house.far(), [("town", "main", f.first)])
        self.assertIsNone(self.house.set_far("town", "main", f.last))
        self.assertEqual(self.house.far(), [("town", "main", f.last)])

    def test_rising(self):
        f = self.family
        due = [("a", "b", f.last), ("a", "c", f.first), ("b", "a", f.left), ("ba", "a", f.first)]
        for order in itertools.permutations(due):
            house = self.new_house()
            for label, mark, version in order:
                house.set_far(label, mark, version)
            self.assertEqual(house.far(), due)

    def test_taken_away(self):
        f = self.family
        self.house.set_far("a", "b", f.first)
        self.house.set_far("b", "a", f.first)
        self.assertIsNone(self.house.set_far("a", "a", None))
        self.assertEqual(self.house.far(), [("a", "b", f.first), ("b", "a", f.first)])
        self.assertIsNone(self.house.set_far("a", "b", None))
        self.assertIsNone(self.house.set_far("a", "b", None))
        self.assertEqual(self.house.far(), [("b", "a", f.first)])

    def test_refused(self):
        f = self.family
        self.house.set_far("a", "b", f.first)
        for version in [f.leaf, f.bare, f.tree, 8, 99, -1, 10 ** 59]:
            self.assert_refused(NoName, {"name": version}, self.house.set_far, "a", "b", version)
            self.assert_refused(NoName, {"name": version}, self.house.set_far, "a", "c", version)
        for version in odd_things():
            if version is not None:
                self.assert_refused(NoName, {"name": version}, self.house.set_far, "a", "b", version)
        self.assert_refused(Lack, {"name": f.right}, self.house.set_far, "a", "b", f.right)

    def test_no_name_ahead_of_lack(self):
        house = House(self.book)
        for name in range(4):
            self.assert_refused(NoName, {"name": name}, house.set_far, "a", "b", name, house=house)
        for name in range(4, 8):
            self.assert_refused(Lack, {"name": name}, house.set_far, "a", "b", name, house=house)

    def test_is_no_mark(self):
        self.house.set_far("a", "main", self.family.first)
        self.assert_refused(NoMark, {"mark": "main"}, self.house.at, "main")
        self.assertEqual((self.house.marks(), self.house.trail()), ([], []))


class Sweeps(Case):
    def test_roots(self):
        f = self.family
        self.house.move("main", old=None, new=f.left)
        self.house.move("same", old=None, new=f.left)
        self.house.set_far("a", "b", f.first)
        pin = self.house.pin((f.last, f.leaf, f.left))
        self.assertEqual(self.house.roots(), [f.leaf, f.first, f.left, f.last])
        pin.let_go()
        self.assertEqual(self.house.roots(), [f.first, f.left])
        self.house.move("main", old=f.left, new=None, back=True)
        self.assertEqual(self.house.roots(), [f.first, f.left])
        self.house.move("same", old=f.left, new=None, back=True)
        self.house.set_far("a", "b", None)
        self.assertEqual(self.house.roots(), [])

    def test_without_roots_all_is_taken(self):
        before, held = self.house.changes(), self.house.held()
        self.assertEqual(self.house.kept(), [])
        self.assertEqual(self.house.sweep(), held)
        self.assertEqual((self.house.held(), len(self.house), self.house.changes()), ([], 0, before + 1))

    def test_one_that_takes_nothing(self):
        f = self.family
        self.house.move("main", old=None, new=f.last)
        self.assertEqual(self.house.sweep(), [f.empty])
        before = self.house.changes()
        self.assertEqual(self.house.kept(), self.house.held())
        self.assertEqual(self.house.sweep(), [])
        self.assertEqual(self.house.changes(), before)

    def test_each_kind_of_root(self):
        f = self.family
        for label, root in [("mark", f.left), ("far", f.left), ("pin", f.left)]:
            house = self.new_house()
            if label == "mark":
                house.move("main", old=None, new=root)
            elif label == "far":
                house.set_far("a", "b", root)
            else:
                house.pin((root,))
            self.assertEqual(house.kept(), [f.leaf, f.bare, f.tree, f.first, f.left])
            self.assertEqual(house.sweep(), [f.empty, f.last])
            self.assertEqual(house.held(), [f.leaf, f.bare, f.tree, f.first, f.left])

    def test_deep(self):
        f = self.family
        for deep, taken in [(0, [f.empty, f.first, f.left]), (1, [f.empty, f.first]), (2, [f.empty]), (ALL, [f.empty])]:
            house = self.new_house()
            house.move("main", old=None, new=f.last)
            kept = [name for name in house.held() if name not in taken]
            self.assertEqual(house.kept(deep=deep), kept)
            self.assertEqual(house.sweep(deep=deep), taken)
            self.assertEqual((house.held(), house.at("main")), (kept, f.last))
        self.house.move("main", old=None, new=f.last)
        self.assertEqual(self.house.kept(), self.house.kept(deep=ALL))

    def test_what_was_taken_may_be_put_again(self):
        taken = self.house.sweep()
        before = self.house.changes()
        for many, name in enumerate(taken):
            self.assertFalse(self.house.holds(name))
            self.assertIs(self.house.put(name), True)
            self.assertEqual(self.house.changes(), before + many + 1)
        self.assertEqual(self.house.held(), taken)

    def test_views_and_lists_told_ahead_stay(self):
        f = self.family
        self.house.move("main", old=None, new=f.first)
        view, held, kept = self.house.view(), self.house.held(), self.house.kept()
        copies = (view.names(), list(held), list(kept))
        self.house.sweep()
        self.assertEqual((view.names(), held, kept), copies)
        self.assertTrue(view.holds(f.last))
        self.assertEqual(self.house.view().names(), [f.bare, f.first])

    def test_the_book_keeps_its_names(self):
        many = len(self.book)
        self.house.sweep()
        self.assertEqual(len(self.book), many)
        self.assertEqual(self.house.write(("tree", ())), self.family.bare)

    def test_what_is_told_may_be_changed(self):
        told = self.house.sweep()
        told.clear()
        self.assertEqual(self.house.held(), [])


class Model:
    """What a house shall tell, kept plainly."""

    def __init__(self, book):
        self.book, self.held, self.changes = book, set(), 0
        self.marks, self.trail, self.far, self.pins = {}, [], {}, []

    def roots(self):
        pinned = [name for pin in self.pins if pin is not None for name in pin]
        return sorted({*self.marks.values(), *self.far.values(), *pinned})

    def kept(self, deep):
        view = Holding(self.book, sorted(self.held))
        return [name for name, steps, above in keeping(view, tuple(self.roots()), deep=deep)]

    def state(self):
        return (sorted(self.held), len(self.held), self.changes, sorted(self.marks.items()), self.trail[-LAST:],
                sorted((*pair, version) for pair, version in self.far.items()), self.roots())


class Deeds(unittest.TestCase):
    """Rows of deeds at two houses of one book, each held against its model."""

    def put(self, dice, house, model):
        name = dice.randrange(len(model.book))
        self.assertIs(house.put(name), name not in model.held)
        model.changes += name not in model.held
        model.held.add(name)

    def write(self, dice, house, model):
        content = ("leaf", (str(dice.randrange(8)),))
        name = house.write(content)
        self.assertEqual(model.book.thing(name), content)
        model.changes += name not in model.held
        model.held.add(name)

    def move(self, dice, house, model):
        mark, back = dice.choice("abc"), dice.random() < 0.4
        old = model.marks.get(mark) if dice.random() < 0.8 else dice.randrange(len(model.book))
        new = dice.choice([None, *versions_of(model.book)])
        due, told = self.due_of_move(model, mark, old, new, back), None
        try:
            told = house.move(mark, old=old, new=new, back=back)
        except HouseError as refusal:
            self.assertIs(type(refusal), due)
            return
        self.assertIsNone(due)
        if old is None or new is None:
            self.assertIsNone(told)
        else:
            self.assertIs(right_way(house.view(), old, new, told), True)
        model.marks.pop(mark, None)
        if new is not None:
            model.marks[mark] = new
        model.trail.append((mark, old, new, back))

    def due_of_move(self, model, mark, old, new, back):
        if new is not None and new not in model.held:
            return Lack
        if model.marks.get(mark) != old:
            return Stale
        if back:
            return None
        if new is None:
            return NotAhead
        view = Holding(model.book, sorted(model.held))
        return None if old is None or old in reached(view, (new,)) else NotAhead

    def set_far(self, dice, house, model):
        pair, version = (dice.choice("xy"), dice.choice("ab")), dice.choice([None, *sorted(model.held)])
        if version is None:
            house.set_far(*pair, None)
            model.far.pop(pair, None)
        elif model.book.kind(version) == "version":
            house.set_far(*pair, version)
            model.far[pair] = version
        else:
            self.assertRaises(NoName, house.set_far, *pair, version)

    def pin(self, dice, house, model):
        names = dice.sample(sorted(model.held), min(2, len(model.held)))
        self.made[house].append(house.pin(tuple(names)))
        model.pins.append(set(names))

    def add(self, dice, house, model):
        if model.pins and model.held:
            at, name = dice.randrange(len(model.pins)), dice.choice(sorted(model.held))
            if model.pins[at] is not None:
                self.made[house][at].add(name)
                model.pins[at].add(name)

    def let_go(self, dice, house, model):
        if model.pins:
            at = dice.randrange(len(model.pins))
            self.made[house][at].let_go()
            model.pins[at] = None

    def sweep(self, dice, house, model):
        deep = dice.choice([0, 1, 2, ALL])
        kept = model.kept(deep)
        taken = sorted(model.held - set(kept))
        self.assertEqual(house.kept(deep=deep), kept)
        self.assertEqual(house.sweep(deep=deep), taken)
        model.held = set(kept)
        model.changes += bool(taken)

    def test_rows_of_deeds_at_two_houses(self):
        deeds = [self.put] * 5 + [self.write, self.move, self.move, self.move, self.set_far, self.pin, self.add,
                                  self.let_go, self.sweep]
        for seed in range(40):
            dice = random.Random(seed)
            book = random_book(dice)
            houses = [(House(book), Model(book)) for _ in range(2)]
            self.made = {house: [] for house, model in houses}
            told = []
            for _ in range(80):
                house, model = dice.choice(houses)
                dice.choice(deeds)(dice, house, model)
                for house, model in houses:
                    self.assertEqual(house_state(house), model.state())
                    self.assertEqual([name for name in house.roots() if not house.holds(name)], [])
                    told.append((house.view(), house.held()))
            for view, held in told:
                self.assertEqual(view.names(), held)


if __name__ == "__main__":
    unittest.main()
