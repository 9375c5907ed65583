"""Points 42 to 46, 48 and 49, of a teller."""

import itertools
import random
import unittest

from samples import Hamlet, house_state, housed, odd_things, random_book, versions_of

from fewasks.errors import BadRow
from fewasks.holding import Holding
from fewasks.packrows import row_price, rows_of
from fewasks.reach import ALL, missing, reached
from fewasks.reasons import wanted
from fewasks.teller import Teller

DONE, HELLO = ("done",), ("hello",)


def due_bill(view, want):
    """Point 45, word for word."""
    _, starts, deep, under, common, whole, also = want
    near = reached(view, starts, deep=deep)
    if whole:
        shared = set().union(*wanted(view, common, under=under))
        parts = wanted(view, tuple(version for version in near if version not in common), under=under)
        held, lacking = [set(names) - shared for names in parts]
    else:
        held, lacking = [set(names) for names in wanted(view, near, under=under)]
    held |= {name for name in also if view.holds(name)}
    lacking |= {name for name in also if not view.holds(name)} | set(missing(view, starts, deep=deep))
    offer = [name for name in wanted(view, common)[0] if view.book.kind(name) == "leaf"]
    return ("bill", tuple(sorted(held)), tuple(sorted(lacking)), tuple(offer))


class Case(unittest.TestCase):
    """The hamlet's rows; right has the asker's rows in order, with their answers."""

    def setUp(self):
        h = self.hamlet = Hamlet()
        self.there = h.there
        self.teller = Teller(self.there)
        self.want = ("want", (h.third,), ALL, (), (h.first,), True, ())
        self.lack = ("lack", (h.two, h.new, h.second, h.third), (h.one, h.other))
        over = (h.two, "over", h.one, (("take", 0, 5), ("put", ("x",))))
        self.right = [
            (HELLO, ("house", (("main", h.third), ("side", h.side)), (), 11)),
            (("have", (h.mine,)), ("have", (False,))),
            (("have", (h.first,)), ("have", (True,))),
            (self.want, ("bill", (h.two, h.new, h.bare, h.second, h.third), (), (h.one, h.other))),
            (self.lack, ("pack", 4, 19)),
            (("row", 0), ("row", 0, over)),
            (("row", 1), ("row", 1, (h.new, "plain", h.book.thing(h.new)))),
            (("row", 2), ("row", 2, (h.second, "plain", h.book.thing(h.second)))),
            (("row", 3), ("row", 3, (h.third, "plain", h.book.thing(h.third)))),
            (DONE, DONE),
        ]

    def told(self, many):
        """A new teller behind so many of the right rows."""
        self.teller.drop()
        self.teller = Teller(self.there)
        for row, answer in self.right[:many]:
            self.assertEqual(self.teller.answer(row), answer)
        return self.teller

    def assert_bad(self, row, teller=None):
        teller = teller or self.teller
        before = (house_state(self.there), teller.over(), len(self.hamlet.book))
        with self.subTest(str(row)[:70]):
            self.assertRaises(BadRow, teller.answer, row)
            self.assertEqual((house_state(self.there), teller.over(), len(self.hamlet.book)), before)


class Answers(Case):
    def test_row_by_row(self):
        self.assertFalse(self.teller.over())
        for row, answer in self.right:
            self.assertFalse(self.teller.over())
            self.assertEqual(self.teller.answer(row), answer)
        self.assertTrue(self.teller.over())

    def test_its_methods_stand_in_the_class_itself(self):
        for word in ("answer", "over", "drop"):
            self.assertIn(word, vars(Teller))

    def test_hello_tells_marks_edges_and_changes(self):
        h = self.hamlet
        self.assertEqual(Teller(h.here).answer(HELLO), ("house", (), (), 8))
        house = housed(h.book, (h.third, h.side, h.first), b=h.side, a=h.third, c=h.side)
        house.sweep(deep=0)
        due = ("house", (("a", h.third), ("b", h.side), ("c", h.side)), (h.third, h.side), 4)
        self.assertEqual(Teller(house).answer(HELLO), due)

    def test_have_of_whatever_it_holds(self):
        h = self.hamlet
        self.told(1)
        names = tuple(range(13))
        self.assertEqual(self.teller.answer(("have", names)), ("have", (True,) * 11 + (False,) * 2))
        self.assertEqual(self.teller.answer(("have", (h.own, 13, 400, 10 ** 18, 10 ** 59))), ("have", (False,) * 5))
        self.assertEqual(self.teller.answer(("have", tuple(range(0, 40, 2))))[1], (True,) * 6 + (False,) * 14)

    def test_rows_in_any_order_and_again(self):
        self.told(9)
        for row, answer in [*reversed(self.right[:-1]), *self.right[:-1], *self.right[:-1]]:
            self.assertEqual(self.teller.answer(row), answer)
        self.assertEqual(self.teller.answer(("have", (0, 12))), ("have", (True, False)))
        self.assertEqual(self.teller.answer(("have", (0, 12))), ("have", (True, False)))

    def test_have_at_any_turn(self):
        for many in range(1, 10):
            self.told(many)
            self.assertEqual(self.teller.answer(("have", (7, 12))), ("have", (True, False)))

    def test_what_was_answered_at_any_later_turn(self):
        for many in range(1, 10):
            self.told(many)
            for row, answer in self.right[:many]:
                self.assertEqual(self.teller.answer(row), answer)

    def test_rows_of_the_pack_in_any_order(self):
        for order in itertools.permutations(range(4)):
            self.told(5)
            for k in order:
                self.assertEqual(self.teller.answer(("row", k)), self.right[5 + k][1])

    def test_done_at_any_turn_behind_hello(self):
        for many in range(1, 10):
            self.told(many)
            self.assertEqual(self.teller.answer(DONE), DONE)
            self.assertTrue(self.teller.over())
            self.assertEqual(self.teller.answer(DONE), DONE)
            for row, answer in self.right[:-1]:
                self.assert_bad(row)
            self.assertEqual(self.teller.answer(DONE), DONE)

    def test_pins(self):
        h = self.hamlet
        self.there.move("main", old=h.third, new=None, back=True)
        self.there.move("side", old=h.side, new=None, back=True)
        self.assertEqual(self.there.roots(), [])
        self.teller.answer(HELLO)
        self.assertEqual(self.there.roots(), list(range(11)))
        self.teller.answer(HELLO)
        self.there.put(h.own)
        self.assertEqual(self.there.sweep(), [h.own])
        self.teller.answer(DONE)
        self.assertEqual(self.there.roots(), [])
        self.assertEqual(self.there.sweep(), list(range(11)))

    def test_made_alone_it_pins_nothing_and_takes_no_view(self):
        h = self.hamlet
        before = self.there.roots()
        teller = Teller(self.there)
        self.assertEqual(self.there.roots(), before)
        self.there.put(h.mine)
        self.assertEqual(teller.answer(HELLO)[3], 12)
        self.assertEqual(teller.answer(("have", (h.mine,))), ("have", (True,)))

    def test_all_answers_are_of_the_view_at_hello(self):
        h = self.hamlet
        for at in range(1, 10):
            self.setUp()
            h = self.hamlet
            for k, (row, answer) in enumerate(self.right):
                if k == at:
                    self.there.put(h.mine)
                    self.there.put(h.own)
                    self.there.move("new", old=None, new=h.mine)
                    self.there.move("main", old=h.third, new=h.first, back=True)
                    self.there.move("side", old=h.side, new=None, back=True)
                    self.there.sweep(deep=0)
                    for old, due in self.right[:k]:
                        self.assertEqual(self.teller.answer(old), due)
                self.assertEqual(self.teller.answer(row), answer)

    def test_two_tellers_of_one_house(self):
        one, two = Teller(self.there), Teller(self.there)
        self.assertEqual(one.answer(HELLO), two.answer(HELLO))
        one.drop()
        self.assertEqual(self.there.roots(), list(range(11)))
        self.assert_bad(HELLO, one)
        self.assertEqual(two.answer(HELLO), self.right[0][1])
        two.drop()


class Drops(Case):
    def test_ahead_of_hello(self):
        self.assertIsNone(self.teller.drop())
        self.assertTrue(self.teller.over())
        for row, answer in self.right:
            self.assert_bad(row)
        self.assertIsNone(self.teller.drop())
        self.assert_bad(DONE)

    def test_behind_each_row(self):
        for many in range(1, 11):
            self.setUp()
            self.told(many)
            roots = Hamlet().there.roots()
            self.assertIsNone(self.teller.drop())
            self.assertTrue(self.teller.over())
            self.assertEqual(self.there.roots(), roots)
            for row, answer in self.right[:-1]:
                self.assert_bad(row)
            self.assertEqual(self.teller.answer(DONE), DONE)
            self.assertIsNone(self.teller.drop())
            self.assertEqual(self.teller.answer(DONE), DONE)
            for thing in odd_things():
                self.assert_bad(thing)


class Bad(Case):
    """Each clause of point 48 broken by itself."""

    def test_anything_but_hello_ahead_of_it(self):
        for row, answer in self.right[1:]:
            self.assert_bad(row)
        self.assertEqual(self.teller.answer(HELLO), self.right[0][1])

    def test_anything_at_any_turn(self):
        right = [row for row, answer in self.right]
        for many in range(11):
            self.told(many)
            for thing in odd_things():
                self.assert_bad(thing)
                for word in ("hello", "have", "want", "lack", "row", "done", "house", "bill", "pack", ""):
                    # These are ints that rise, so they may be asked.
                    if word != "have" or thing != (1, 2, 3):
                        self.assert_bad((word, thing))
                self.assert_bad((thing,))
                if thing != ():
                    self.assert_bad(("lack", thing, ()))
                self.assert_bad((thing, *right[3][1:]))
            for row in right:
                self.assert_bad(list(row))
                self.assert_bad(row + (0,))
                self.assert_bad(row[:-1])

    def test_answers_are_no_rows_of_an_asker(self):
        for many in range(10):
            self.told(many)
            for row, answer in self.right[:-1]:
                self.assert_bad(answer)

    def test_have(self):
        self.told(1)
        for names in [(), (7, 7), (8, 7), (-1,), (-1, 7), tuple(range(21)), [7], (True,), (False, 7), (7, None), ("7",),
                      7, None, ((7,),), (0, True), (10 ** 59, 1)]:
            self.assert_bad(("have", names))
        for thing in odd_things():
            if thing != (1, 2, 3):
                self.assert_bad(("have", thing))
            if thing not in (10 ** 18 + 1, 10 ** 60 - 1):
                self.assert_bad(("have", (thing,)))
        self.assert_bad(("have",))
        self.assert_bad(("have", (7,), ()))
        self.assert_bad(["have", (7,)])
        self.assertEqual(self.teller.answer(("have", tuple(range(20))))[1], (True,) * 11 + (False,) * 9)

    def wants(self, at, *parts):
        return [self.want[:at] + (part,) + self.want[at + 1:] for part in parts]

    def test_want(self):
        h = self.hamlet
        self.told(1)
        versions = [(h.mine,), (h.first, h.mine), (h.first, h.first), (h.third, h.first), (h.old,), (h.first, 13),
                    (-1, h.first), [h.first], (True,), (h.first, None), None, h.first, "", ("a",)]
        wrong = self.wants(1, *versions) + self.wants(4, *versions)
        wrong += self.wants(2, -1, ALL + 1, True, False, None, "0", (0,), 10 ** 59)
        wrong += self.wants(3, ("b", "a"), ("a", "a"), ("A",), ("",), ("abcdefghi",), ["a"], "a", None, ((),), (1,),
                            tuple("abcdefghijk"))
        wrong += self.wants(5, 0, 1, None, "yes", (), 2)
        wrong += self.wants(6, (1, 0), (1, 1), (13,), (-1,), (-1, 0), [0], None, 0, (True,), (0, "1"), (400,),
                            tuple(range(41)))
        for row in wrong:
            self.assert_bad(row)
        for at, thing in itertools.product(range(7), odd_things()):
            rights = {3: [("leaf",), ("tree",), ("version",)], 5: [True, False], 6: [(1, 2, 3)]}.get(at, [])
            if at == 0 or thing not in [(), *rights]:
                self.assert_bad(self.want[:at] + (thing,) + self.want[at + 1:])
        self.assertEqual(self.teller.answer(self.want), self.right[3][1])

    def test_also_of_more_than_forty(self):
        h = self.hamlet
        while len(h.book) < 50:
            h.book.named(("leaf", (str(len(h.book)),)))
        self.told(1)
        self.assert_bad(self.want[:6] + (tuple(range(41)),))
        told = self.teller.answer(self.want[:6] + (tuple(range(40)),))
        self.assertEqual((told[1], told[2]), (tuple(range(11)), tuple(range(11, 40))))

    def test_under_of_ten_and_deep_at_its_bounds(self):
        for want in [*self.wants(3, tuple("abcdefghij"), ("doc",)), *self.wants(2, 0, 1, ALL)]:
            self.told(1)
            self.assertEqual(self.teller.answer(want), due_bill(self.there.view(), want))

    def test_a_second_want_unlike_the_first(self):
        h = self.hamlet
        self.told(4)
        for want in [*self.wants(1, (), (h.second,), (h.second, h.third)), *self.wants(2, 0, 399),
                     *self.wants(3, ("doc",)), *self.wants(4, (), (h.second,)), *self.wants(5, False),
                     *self.wants(6, (0,))]:
            self.assert_bad(want)
            self.assertEqual(self.teller.answer(self.want), self.right[3][1])

    def test_lack_ahead_of_any_want(self):
        for many in range(1, 4):
            self.told(many)
            self.assert_bad(self.lack)
            self.assert_bad(("lack", (), ()))

    def test_lack(self):
        h = self.hamlet
        self.told(4)
        wrong = [(h.one,), (h.two, h.one), (h.two, h.two), (h.two, h.low), (h.two, h.mine), (h.two, 13), (-1, h.two),
                 [h.two], (True,), None, h.two, "", (h.two, None), (h.first,)]
        for names in wrong:
            self.assert_bad(("lack", names, (h.one,)))
        for bases in [(h.two,), (h.other, h.one), (h.one, h.one), (h.low,), (h.one, h.old), (h.one, 13), (-1, h.one),
                      [h.one], (False,), None, h.one, (h.one, "2")]:
            self.assert_bad(("lack", (h.two,), bases))
            self.assert_bad(("lack", (), bases))
        for thing in odd_things():
            if thing != ():
                self.assert_bad(("lack", thing, ()))
                self.assert_bad(("lack", (), thing))
        self.assert_bad(("lack", (h.two,)))
        self.assert_bad(self.lack + ((),))
        self.assertEqual(self.teller.answer(self.lack), self.right[4][1])

    def test_bases_that_are_to_be_sent(self):
        h = self.hamlet
        self.teller.answer(HELLO)
        # Nothing is left out where whole is False, so the offered leaves are billed, too.
        bill = self.teller.answer(("want", (h.second,), ALL, (), (h.first, h.second), False, ()))
        self.assertEqual((bill[1], bill[3]), ((0, 1, 2, 3, 4, 5, 7, 8), (0, 1, 2)))
        self.assert_bad(("lack", (h.one, h.two), (h.one,)))
        self.assert_bad(("lack", (h.one, h.two), (h.two, h.other)))
        told = self.teller.answer(("lack", (h.two,), (h.one, h.other)))
        self.assertEqual(told, ("pack", 1, 7))

    def test_a_second_lack_unlike_the_first(self):
        h = self.hamlet
        self.told(5)
        for lack in [("lack", (), ()), ("lack", self.lack[1], ()), ("lack", self.lack[1], (h.one,)),
                     ("lack", self.lack[1][1:], self.lack[2]), ("lack", self.lack[1][:3], self.lack[2])]:
            self.assert_bad(lack)
            self.assertEqual(self.teller.answer(self.lack), self.right[4][1])
            self.assertEqual(self.teller.answer(("row", 0)), self.right[5][1])

    def test_a_row_ahead_of_any_lack(self):
        for many in range(1, 5):
            self.told(many)
            for k in range(-1, 3):
                self.assert_bad(("row", k))

    def test_a_number_that_there_is_not(self):
        self.told(5)
        for k in [-1, 4, 5, 10 ** 59, True, False, None, "0", (0,), [0], -4]:
            self.assert_bad(("row", k))
        self.assert_bad(("row",))
        self.assert_bad(("row", 0, 0))
        self.told(4)
        self.assertEqual(self.teller.answer(("lack", (), ())), ("pack", 0, 0))
        self.assert_bad(("row", 0))


class Bills(unittest.TestCase):
    def test_whole_and_not(self):
        h = Hamlet()
        for whole, names in [(True, (1, 5, 6, 8, 9)), (False, (0, 1, 2, 3, 4, 5, 6, 7, 8, 9))]:
            teller = Teller(h.there)
            teller.answer(HELLO)
            self.assertEqual(teller.answer(("want", (h.third,), ALL, (), (h.first,), whole, ())),
                             ("bill", names, (), (h.one, h.other)))

    def test_deep(self):
        h = Hamlet()
        for deep, names in [(0, (6, 9)), (1, (1, 2, 3, 5, 6, 8, 9)), (2, tuple(range(10))), (ALL, tuple(range(10)))]:
            teller = Teller(h.there)
            teller.answer(HELLO)
            self.assertEqual(teller.answer(("want", (h.third,), deep, (), (), True, ())), ("bill", names, (), ()))

    def test_also_held_and_not_held(self):
        h = Hamlet()
        teller = Teller(h.there)
        teller.answer(HELLO)
        told = teller.answer(("want", (), ALL, (), (), True, (h.one, h.side, h.mine, h.own)))
        self.assertEqual(told, ("bill", (h.one, h.side), (h.mine, h.own), ()))

    def test_under_and_an_offer_of_all_labels(self):
        h = Hamlet()
        teller = Teller(h.there)
        teller.answer(HELLO)
        told = teller.answer(("want", (h.second,), ALL, ("src",), (h.first,), True, ()))
        self.assertEqual(told, ("bill", (h.new, h.second), (), (h.one, h.other)))

    def test_what_lacks_is_gone(self):
        h = Hamlet()
        house = housed(h.book, (h.third, h.bare, h.second, h.one, h.first), main=h.third)
        teller = Teller(house)
        self.assertEqual(teller.answer(HELLO), ("house", (("main", h.third),), (), 5))
        told = teller.answer(("want", (h.third,), ALL, (), (), False, (h.two,)))
        self.assertEqual(told, ("bill", (h.bare, h.first, h.second, h.third), (h.two, h.old, h.new), ()))
        house = housed(h.book, (h.third,), main=h.third)
        for deep, gone in [(0, (h.bare,)), (1, (h.bare, h.second)), (ALL, (h.bare, h.second))]:
            teller = Teller(house)
            self.assertEqual(teller.answer(HELLO)[2], (h.third,))
            told = teller.answer(("want", (h.third,), deep, (), (), False, ()))
            self.assertEqual(told, ("bill", (h.third,), gone, ()))

    def test_random_wants_and_lacks(self):
        dice = random.Random(45)
        for _ in range(300):
            book = random_book(dice, leaves=6, versions=8)
            house = housed(book, [name for name in range(len(book)) if dice.random() < 0.85])
            view = Holding(book, house.held())
            versions = [name for name in versions_of(book) if house.holds(name)]
            starts, common = [tuple(sorted(dice.sample(versions, min(len(versions), dice.randrange(4)))))
                              for _ in range(2)]
            also = tuple(sorted(dice.sample(range(len(book)), dice.randrange(4))))
            under = tuple(sorted(dice.sample("abcde", dice.choice([0, 0, 1, 2]))))
            want = ("want", starts, dice.choice([0, 1, 2, ALL]), under, common, dice.random() < 0.5, also)
            teller = Teller(house)
            teller.answer(HELLO)
            bill = teller.answer(want)
            self.assertEqual(bill, due_bill(view, want))
            names = tuple(name for name in bill[1] if dice.random() < 0.7)
            bases = tuple(name for name in bill[3] if dice.random() < 0.7 and name not in names)
            rows = rows_of(book, names, bases)
            cost = sum(row_price(book, row) for row in rows)
            self.assertEqual(teller.answer(("lack", names, bases)), ("pack", len(names), cost))
            for k, row in enumerate(rows):
                self.assertEqual(teller.answer(("row", k)), ("row", k, row))
            self.assertEqual(teller.answer(DONE), DONE)


if __name__ == "__main__":
    unittest.main()
