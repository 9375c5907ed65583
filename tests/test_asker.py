"""Points 42 to 47, 49 and 50, of an asker."""

import itertools
import random
import unittest

from samples import (Hamlet, grown, house_state, housed, laddered, odd_things, random_book, rowed, strands, talked,
                     versions_of)

from fewasks.asker import Asker
from fewasks.asks import most_asks, settled
from fewasks.chains import cover
from fewasks.errors import BadRow, Contrary, HouseError, NoMark, Unsettled
from fewasks.holding import Holding
from fewasks.papers import right_paper
from fewasks.reach import ALL, reached
from fewasks.reasons import wanted
from fewasks.shapes import shape
from fewasks.teller import Teller

DONE, HELLO = ("done",), ("hello",)
# Parents of versions from 1 on: 2 and 3 over 1 and 4 over both; 3 and 4 over 1 and 2 each, 5 over these.
DIAMOND = [(), (1,), (1,), (2, 3)]
CROSSED = [(), (), (1, 2), (1, 2), (3, 4)]


def told_or_refused(ask):
    try:
        return ask()
    except HouseError as refusal:
        return (type(refusal).__name__, vars(refusal))


def asker_state(asker):
    """All that an asker tells, and the state of its house."""
    return (asker.say(), asker.over(), asker.asked(), asker.common(), asker.came(), asker.gone(),
            told_or_refused(asker.shape), told_or_refused(asker.answers), told_or_refused(asker.paper),
            house_state(asker.home))


class Case(unittest.TestCase):
    """The hamlet's talk; right has its rows in order, with their answers."""

    def setUp(self):
        h = self.hamlet = Hamlet()
        self.here, self.there = h.here, h.there
        over = (h.two, "over", h.one, (("take", 0, 5), ("put", ("x",))))
        self.right = [
            (HELLO, ("house", (("main", h.third), ("side", h.side)), (), 11)),
            (("have", (h.mine,)), ("have", (False,))),
            (("have", (h.first,)), ("have", (True,))),
            (("want", (h.third,), ALL, (), (h.first,), True, ()),
             ("bill", (h.two, h.new, h.bare, h.second, h.third), (), (h.one, h.other))),
            (("lack", (h.two, h.new, h.second, h.third), (h.one, h.other)), ("pack", 4, 19)),
            (("row", 0), ("row", 0, over)),
            (("row", 1), ("row", 1, (h.new, "plain", h.book.thing(h.new)))),
            (("row", 2), ("row", 2, (h.second, "plain", h.book.thing(h.second)))),
            (("row", 3), ("row", 3, (h.third, "plain", h.book.thing(h.third)))),
            (DONE, DONE),
        ]
        self.asker = Asker(self.here, "there", ("main",))

    def told(self, many):
        """A hamlet and its asker anew, behind so many of the right rows."""
        self.setUp()
        for row, answer in self.right[:many]:
            self.assertEqual(self.asker.say(), row)
            self.asker.hear(answer)
        return self.asker

    def assert_refused(self, error, fields, ask, *args):
        with self.assertRaises(error) as caught:
            ask(*args)
        self.assertIs(type(caught.exception), error)
        self.assertEqual(vars(caught.exception), fields)

    def assert_bad(self, row):
        before = asker_state(self.asker)
        with self.subTest(str(row)[:70]):
            self.assert_refused(BadRow, {}, self.asker.hear, row)
            self.assertEqual(asker_state(self.asker), before)


class Talks(Case):
    def test_row_by_row(self):
        for row, answer in self.right:
            self.assertFalse(self.asker.over())
            self.assertEqual(self.asker.say(), row)
            self.assertEqual(self.asker.say(), row)
            self.assertIsNone(self.asker.hear(answer))
        self.assertTrue(self.asker.over())
        self.assertIsNone(self.asker.say())

    def test_with_a_teller(self):
        teller = Teller(self.there)
        self.assertEqual(talked(self.asker, teller), self.right)
        self.assertTrue(self.asker.over() and teller.over())

    def test_its_methods_stand_in_the_class_itself(self):
        for word in "say hear over asked shape answers paper common came gone drop".split():
            self.assertIn(word, vars(Asker))

    def test_what_is_held_behind_it(self):
        h = self.hamlet
        before, there = self.here.held(), house_state(self.there)
        talked(self.asker, Teller(self.there))
        self.assertEqual(self.here.held(), sorted(before + [h.two, h.new, h.second, h.third]))
        self.assertEqual(self.here.changes(), 12)
        self.assertEqual(self.here.far(), [("there", "main", h.third)])
        self.assertEqual((self.here.roots(), self.here.marks(), self.here.trail()), ([h.third], [], []))
        self.assertEqual(house_state(self.there), there)

    def test_the_far_mark_is_set_with_the_last_row_alone(self):
        for many in range(10):
            self.told(many)
            self.assertEqual(self.here.far(), [])
        self.told(10)
        self.assertEqual(self.here.far(), [("there", "main", self.hamlet.third)])

    def test_far_marks_in_place_of_old_ones(self):
        h = self.hamlet
        self.here.set_far("there", "main", h.first)
        self.here.set_far("there", "side", h.first)
        self.here.set_far("else", "main", h.first)
        talked(self.asker, Teller(self.there))
        self.assertEqual(self.here.far(), [("else", "main", h.first), ("there", "main", h.third),
                                           ("there", "side", h.first)])

    def test_what_came_is_put_at_once(self):
        h = self.hamlet
        for many, held in [(5, []), (6, [h.two]), (7, [h.two, h.new]), (8, [h.two, h.new, h.second]),
                           (9, [h.two, h.new, h.second, h.third]), (10, [h.two, h.new, h.second, h.third])]:
            self.told(many)
            self.assertEqual(self.asker.came(), tuple(held))
            self.assertEqual([name for name in (h.two, h.new, h.second, h.third) if self.here.holds(name)], held)
            self.assertEqual(self.here.changes(), 8 + len(held))

    def test_no_wishes(self):
        asker = Asker(self.here, "there", ())
        rows = talked(asker, Teller(self.there))
        self.assertEqual([row for row, answer in rows], [HELLO, ("have", (11,)), ("have", (7,)),
                                                         ("want", (), ALL, (), (7,), True, ()), ("lack", (), (0, 2)), DONE])
        self.assertEqual((asker.came(), self.here.far()), ((), []))

    def test_several_wishes(self):
        h = self.hamlet
        self.there.move("again", old=None, new=h.third)
        asker = Asker(self.here, "town", ("again", "main", "side"))
        rows = talked(asker, Teller(self.there))
        self.assertEqual(rows[3][0][1], (h.third, h.side))
        self.assertEqual(asker.came(), (h.two, h.new, h.second, h.third, h.side))
        self.assertEqual(self.here.far(), [("town", "again", h.third), ("town", "main", h.third),
                                           ("town", "side", h.side)])

    def test_deep_under_also_as_handed_in(self):
        h = self.hamlet
        asker = Asker(self.here, "there", ("main",), deep=1, under=("doc", "x"), also=(h.side, h.own))
        rows = talked(asker, Teller(self.there))
        self.assertEqual(rows[3], (("want", (h.third,), 1, ("doc", "x"), (h.first,), True, (h.side, h.own)),
                                   ("bill", (h.two, h.new, h.bare, h.second, h.third, h.side), (h.own,),
                                    (h.one, h.other))))
        self.assertEqual(asker.gone(), (h.own,))
        self.assertTrue(self.here.holds(h.side))

    def test_deep_nought(self):
        h = self.hamlet
        asker = Asker(self.here, "there", ("main",), deep=0)
        talked(asker, Teller(self.there))
        self.assertEqual(asker.came(), (h.third,))
        self.assertEqual(self.here.view().edges(), [h.third])

    def test_whole_false_where_something_of_the_common_lacks(self):
        h = self.hamlet
        house = housed(h.book, (h.first, h.old, h.one))
        asker = Asker(house, "there", ("main",))
        rows = talked(asker, Teller(self.there))
        self.assertEqual(rows[2], (("want", (h.third,), ALL, (), (h.first,), False, ()),
                                   ("bill", tuple(range(10)), (), (h.one, h.other))))
        self.assertEqual(asker.came(), (h.two, h.other, h.low, h.new, h.bare, h.second, h.third)
                         if asker.came()[0] == h.two else (h.other, h.two, h.low, h.new, h.bare, h.second, h.third))
        self.assertEqual(house.held(), list(range(10)))

    def test_whole_goes_by_the_chosen_labels(self):
        h = self.hamlet
        house = housed(h.book, (h.first, h.old, h.one))
        asker = Asker(house, "there", ("main",), under=("doc",))
        rows = talked(asker, Teller(self.there))
        self.assertIs(rows[2][0][5], True)
        self.assertEqual(house.held(), [h.one, h.two, h.old, h.new, h.bare, h.first, h.second, h.third])

    def test_of_one_house(self):
        h = self.hamlet
        asker, teller = Asker(self.there, "self", ("main", "side")), Teller(self.there)
        rows = talked(asker, teller)
        self.assertEqual(rows[-3][0], ("want", (h.third, h.side), ALL, (), (7, 8, 9, 10), True, ()))
        self.assertEqual(rows[-2], (("lack", (), (0, 1, 2)), ("pack", 0, 0)))
        self.assertEqual((asker.came(), self.there.far()), ((), [("self", "main", h.third), ("self", "side", h.side)]))
        self.assertEqual(self.there.roots(), [h.third, h.side])

    def test_an_empty_house(self):
        h = self.hamlet
        house = housed(h.book, ())
        asker = Asker(house, "there", ("side",))
        rows = talked(asker, Teller(self.there))
        self.assertEqual([row[0] for row, answer in rows[:3]], ["hello", "want", "lack"])
        self.assertEqual((asker.asked(), asker.shape(), asker.answers(), asker.paper()), (0, ((), ()), (), ()))
        self.assertEqual(house.held(), [0, 1, 2, 3, 4, 5, 7, 10])

    def test_lack_is_of_the_house_as_the_bill_is_heard(self):
        h = self.hamlet
        self.told(3)
        self.assertEqual(self.asker.say(), self.right[3][0])
        for name in (h.two, h.second):
            self.here.put(name)
        self.asker.hear(("bill", (h.two, h.new, h.bare, h.second, h.third), (h.own,), (h.one, h.two, h.other)))
        self.assertEqual(self.asker.say(), ("lack", (h.new, h.third), (h.one, h.two, h.other)))
        self.here.put(h.new)
        self.assertEqual(self.asker.say(), ("lack", (h.new, h.third), (h.one, h.two, h.other)))
        self.asker.hear(("pack", 2, 0))
        before = self.here.changes()
        self.asker.hear(("row", 0, (h.new, "plain", h.book.thing(h.new))))
        self.assertEqual((self.here.changes(), self.asker.came()), (before, (h.new,)))

    def test_rows_may_come_in_another_order(self):
        self.told(5)
        for k, at in enumerate((8, 6, 7, 5)):
            self.asker.hear(("row", k, self.right[at][1][2]))
        self.assertEqual(self.asker.came(), (9, 5, 8, 1))
        self.assertEqual(self.asker.say(), DONE)

    def test_the_view_is_the_one_it_was_made_with(self):
        h = self.hamlet
        self.here.put(h.side)
        self.asker.hear(self.right[0][1])
        self.assertEqual(self.asker.shape(), ((h.first, h.mine, h.own), ((h.mine, h.first), (h.own, h.mine))))

    def test_a_cost_is_taken_as_told(self):
        for cost in (0, 1, 10 ** 59):
            self.told(4)
            self.asker.hear(("pack", 4, cost))
            self.assertEqual(self.asker.say(), ("row", 0))


class Pins(Case):
    def test_pinned_when_made(self):
        self.assertEqual(self.here.roots(), self.here.held())
        self.assertEqual(self.here.sweep(), [])

    def test_what_is_put_later_is_not_pinned(self):
        self.here.put(self.hamlet.new)
        self.assertEqual(self.here.sweep(), [self.hamlet.new])

    def test_what_came_is_pinned(self):
        h = self.hamlet
        for many in range(6, 10):
            self.told(many)
            self.assertEqual(self.here.sweep(deep=0), [])
            self.assertEqual(self.here.roots(), self.here.held())

    def test_what_is_found_held_of_the_bill_is_pinned(self):
        h = self.hamlet
        self.told(3)
        for name in (h.two, h.second, h.side, h.third):
            self.here.put(name)
        # third is told as gone, so it is not pinned though it is held; two is offered alone.
        self.asker.hear(("bill", (h.new, h.bare, h.second, 9), (h.side,), (h.one, h.two, h.other)))
        self.assertEqual(self.here.sweep(), [h.side])
        self.assertTrue(self.here.holds(h.two) and self.here.holds(h.second) and self.here.holds(h.third))

    def test_let_go_at_the_end_and_by_drop(self):
        h = self.hamlet
        for many in range(10):
            self.told(many)
            self.assertIsNone(self.asker.drop())
            self.assertEqual(self.here.roots(), [])
            self.assertTrue(self.asker.over())
            self.assertIsNone(self.asker.say())
            self.assertEqual(self.here.far(), [])
        self.told(10)
        self.assertEqual(self.here.roots(), [h.third])

    def test_swept_while_the_talk_goes_on(self):
        h = self.hamlet
        teller = Teller(self.there)
        while not self.asker.over():
            row = self.asker.say()
            self.asker.hear(teller.answer(row))
            if not self.asker.over():
                self.assertEqual((self.here.sweep(deep=0), self.there.sweep(deep=0)), ([], []))
        self.assertEqual(self.here.held(), sorted([0, 2, 3, 4, 6, 7, 11, 12, 1, 5, 8, 9]))
        self.assertEqual(self.here.sweep(), [h.mine, h.own])
        self.assertEqual(self.here.held(), list(range(10)))


class Told(Case):
    """What asked, shape, answers, paper, common, came and gone tell, ahead, on the way and behind."""

    def refused_ahead(self):
        for ask in (self.asker.shape, self.asker.answers, self.asker.paper):
            self.assert_refused(Unsettled, {"version": None}, ask)
        self.assertEqual((self.asker.asked(), self.asker.common(), self.asker.came(), self.asker.gone()), (0, (), (), ()))

    def test_ahead_of_the_first_answer(self):
        self.refused_ahead()
        self.assert_bad(("house",))
        self.refused_ahead()
        self.asker.drop()
        self.refused_ahead()

    def test_on_the_way(self):
        h = self.hamlet
        due = ((h.first, h.mine, h.own), ((h.mine, h.first), (h.own, h.mine)))
        for many, asked, answers, common in [(1, 0, (), ()), (2, 1, ((h.mine, False),), ()),
                                             (3, 2, ((h.first, True), (h.mine, False)), (h.first,)),
                                             (7, 2, ((h.first, True), (h.mine, False)), (h.first,))]:
            for dropped in (False, True):
                self.told(many)
                if dropped:
                    self.asker.drop()
                self.assertEqual(self.asker.shape(), due)
                self.assertEqual((self.asker.asked(), self.asker.answers(), self.asker.common()), (asked, answers, common))
                if many < 3:
                    self.assert_refused(Unsettled, {"version": h.first}, self.asker.paper)
                else:
                    self.assertIs(right_paper(due, answers, self.asker.paper()), True)

    def test_behind_the_end_and_a_drop(self):
        h = self.hamlet
        self.told(10)
        state = asker_state(self.asker)
        self.asker.drop()
        self.assertEqual(asker_state(self.asker), state)
        self.assertEqual(self.asker.came(), (h.two, h.new, h.second, h.third))
        self.assertEqual((self.asker.asked(), self.asker.common()), (2, (h.first,)))

    def test_drop_twice(self):
        for many in range(11):
            self.told(many)
            self.asker.drop()
            state = asker_state(self.asker)
            self.assertIsNone(self.asker.drop())
            self.assertEqual(asker_state(self.asker), state)

    def test_gone(self):
        h = self.hamlet
        self.told(3)
        self.assertEqual(self.asker.gone(), ())
        self.asker.hear(("bill", (h.third,), (h.two, h.second, h.own), ()))
        self.assertEqual(self.asker.gone(), (h.two, h.second, h.own))
        self.asker.drop()
        self.assertEqual(self.asker.gone(), (h.two, h.second, h.own))

    def test_answers_rise_whatever_was_asked_first(self):
        h = self.hamlet
        self.told(3)
        self.assertEqual(self.asker.answers(), ((h.first, True), (h.mine, False)))


class Shapes(Case):
    def test_told_marks_and_edges_are_held(self):
        h = self.hamlet
        self.asker.hear(("house", (("main", h.third), ("other", h.mine)), (), 3))
        self.assertEqual(self.asker.answers(), ((h.mine, True),))
        self.assertEqual(self.asker.common(), (h.first, h.mine))
        self.assertEqual(self.asker.say(), ("have", (h.own,)))
        self.setUp()
        h = self.hamlet
        self.asker.hear(("house", (("main", h.third),), (h.second, h.mine, h.own), 3))
        self.assertEqual(self.asker.shape(), ((h.first, h.mine, h.own), ()))
        self.assertEqual(self.asker.answers(), ((h.mine, True), (h.own, True)))
        self.assertEqual(self.asker.say(), ("have", (h.first,)))

    def test_nothing_left_behind_the_first_row(self):
        h = self.hamlet
        self.asker.hear(("house", (("main", h.third), ("other", h.own)), (), 3))
        self.assertEqual(self.asker.answers(), ((h.own, True),))
        self.assertEqual(self.asker.say(), ("want", (h.third,), ALL, (), (h.first, h.mine, h.own), True, ()))
        self.assertEqual((self.asker.asked(), len(self.asker.paper())), (0, 3))

    def assert_asks(self, house, other, few, mark):
        """A whole talk, its asks held to all that points 43 and 44 say of them."""
        asker, teller = Asker(house, "there", (mark,), few=few), Teller(other)
        view, holds = house.view(), other.view().holds
        left, asked = None, 0
        while asker.say()[0] != "want":
            row = asker.say()
            answer = teller.answer(row)
            if row[0] == "have":
                self.assertEqual(list(row[1]), sorted(set(row[1])))
                self.assertTrue(1 <= len(row[1]) <= few and set(row[1]) <= set(left))
                asked += len(row[1])
            asker.hear(answer)
            self.assertEqual(asker.asked(), asked)
            left = settled(asker.shape(), asker.answers())[2]
        self.assertEqual(asker.shape(), shape(view, tuple(other.view().edges())))
        self.assertLessEqual(asked, most_asks(cover(asker.shape())))
        self.assertEqual(asker.common(), tuple(name for name in view.versions() if holds(name)))
        self.assertEqual(asker.say()[4], asker.common())
        self.assertIs(right_paper(asker.shape(), asker.answers(), asker.paper()), True)
        for version, truth in asker.answers():
            self.assertIs(holds(version), truth)
        asker.drop()
        teller.drop()

    def test_asks_of_long_and_wide_shapes(self):
        for few in (1, 4, 20):
            for many, book in [(300, rowed(300)), (300, laddered(300))]:
                for common in (1, 150, 299, 300):
                    house = housed(book, range(many + 1))
                    other = housed(book, range(common + 1), main=common)
                    self.assert_asks(house, other, few, "main")
            wide = housed(strand_book(120, 15), range(121))
            other = housed(wide.book, [0, 1, 2, 5, 17, 32, 20], main=32)
            self.assert_asks(wide, other, few, "main")

    def test_asks_of_random_houses(self):
        dice = random.Random(44)
        for _ in range(250):
            book = random_book(dice, leaves=2, trees=2, versions=14)
            house, other = [housed(book, [name for name in range(len(book)) if dice.random() < share])
                            for share in (0.8, dice.choice([0.3, 0.7, 0.9]))]
            versions = [name for name in versions_of(book) if other.holds(name)]
            if versions:
                other.move("main", old=None, new=dice.choice(versions))
                self.assert_asks(house, other, dice.choice([1, 2, 4, 20]), "main")

    def test_few_left_out_is_four(self):
        house = housed(strand_book(20, 20), range(21))
        asker = Asker(house, "there", ())
        asker.hear(("house", (), (), 0))
        self.assertEqual(len(asker.say()[1]), 4)


def strand_book(many, width):
    """A book of versions in as many rows as width says, side by side."""
    versions, links = strands(many, width)
    under = {upper: lower for upper, lower in links}
    return grown([(under[version] + 1,) if version in under else () for version in versions])


class Refusals(Case):
    """Points 43, 44 and 47."""

    def test_no_mark(self):
        h = self.hamlet
        for wishes, least in [(("main", "other"), "other"), (("a", "main", "zz"), "a"), (("mai",), "mai"),
                              (("b", "c", "d"), "b"), (("main", "mainx"), "mainx")]:
            asker = Asker(self.here, "there", wishes)
            before = house_state(self.here)
            self.assert_refused(NoMark, {"mark": least}, asker.hear, self.right[0][1])
            self.assertTrue(asker.over())
            self.assertIsNone(asker.say())
            self.assert_refused(Unsettled, {"version": None}, asker.shape)
            self.assertEqual(house_state(self.here), before)
            self.assert_refused(BadRow, {}, asker.hear, self.right[0][1])
        self.asker.drop()
        self.assertEqual(self.here.roots(), [])

    def asker_of(self, house):
        asker = Asker(house, "there", (), few=20)
        asker.hear(("house", (), (), 7))
        return asker

    def test_contrary_of_several_asked_at_once(self):
        found = 0
        for book in (grown(DIAMOND), grown(CROSSED)):
            house = housed(book, range(len(book)))
            first = self.asker_of(house)
            names = first.say()[1]
            first.drop()
            for truths in itertools.product((False, True), repeat=len(names)):
                asker = self.asker_of(house)
                state = asker_state(asker)
                due = told_or_refused(lambda: settled(asker.shape(), tuple(zip(names, truths))))
                if due[0] == "Contrary":
                    found += 1
                    self.assert_refused(Contrary, due[1], asker.hear, ("have", truths))
                    self.assertTrue(asker.over())
                    self.assertEqual(asker_state(asker)[2:9], state[2:9])
                    self.assertEqual((asker.asked(), asker.answers(), house.roots()), (0, (), []))
                    self.assert_refused(BadRow, {}, asker.hear, ("have", truths))
                else:
                    asker.hear(("have", truths))
                    self.assertEqual(asker.asked(), len(names))
                asker.drop()
        self.assertGreater(found, 0)

    def test_bad_row_ahead_of_contrary(self):
        asker = self.asker_of(housed(grown(CROSSED), range(6)))
        self.assertEqual(len(asker.say()[1]), 2)
        for wrong in [(True,) * 1, (True,) * 5, (False, 1), (0, True), ()]:
            self.assert_refused(BadRow, {}, asker.hear, ("have", wrong))
            self.assertFalse(asker.over())

    def contrary_house_row(self, wishes):
        """An asker to which it is known that first is not held, and a row that tells a mark above it."""
        h = self.hamlet
        old = Asker(self.here, "there", ())
        old.hear(("house", (), (), 5))
        old.hear(("have", (False,)))
        old.hear(("have", (False,)))
        self.assertEqual(old.answers(), ((h.first, False), (h.mine, False)))
        return Asker(self.here, "there", wishes, known=old), ("house", (("main", h.own),), (), 5)

    def test_contrary_behind_the_first_row(self):
        h = self.hamlet
        asker, row = self.contrary_house_row(("main",))
        self.asker.drop()
        self.assert_refused(Contrary, {"upper": h.own, "lower": h.first}, asker.hear, row)
        self.assertTrue(asker.over())
        self.assertEqual((asker.asked(), asker.common(), self.here.roots()), (0, (), []))
        for ask in (asker.shape, asker.answers, asker.paper):
            self.assert_refused(Unsettled, {"version": None}, ask)
        self.assert_refused(BadRow, {}, asker.hear, row)
        # Nothing was taken of the row, so nothing of it is known.
        new = Asker(self.here, "there", (), known=asker)
        new.hear(("house", (), (), 5))
        self.assertEqual(new.answers(), ())

    def test_no_mark_ahead_of_contrary(self):
        asker, row = self.contrary_house_row(("none",))
        self.assert_refused(NoMark, {"mark": "none"}, asker.hear, row)

    def test_bad_row_ahead_of_both(self):
        asker, row = self.contrary_house_row(("none",))
        self.assert_refused(BadRow, {}, asker.hear, row[:3] + (-1,))
        self.assertFalse(asker.over())
        self.assert_refused(NoMark, {"mark": "none"}, asker.hear, row)

    def test_anything_behind_the_end(self):
        for many in (0, 4, 10):
            self.told(many)
            self.asker.drop()
            for row in [answer for row, answer in self.right] + odd_things():
                self.assert_bad(row)


class BadRows(Case):
    """Each clause of point 47 broken by itself; the talk goes on as if nothing had been heard."""

    def go_on(self, many):
        for row, answer in self.right[many:]:
            self.assertEqual(self.asker.say(), row)
            self.asker.hear(answer)
        self.assertTrue(self.asker.over())

    def assert_all_bad(self, many, rows):
        self.told(many)
        for row in rows:
            self.assert_bad(row)
        self.go_on(many)

    def changed(self, at, place, *parts):
        answer = self.right[at][1]
        return [answer[:place] + (part,) + answer[place + 1:] for part in parts]

    def test_anything_and_answers_to_other_rows(self):
        for many in range(10):
            answers = [answer for row, answer in self.right]
            right = answers[many]
            others = [answer for answer in answers if answer != right and not (many in (1, 2) and answer[0] == "have")]
            rows = others + [list(right), right + (0,), right[:-1], (right,), "done", right[0], ("Done",), (right[0],) * 2]
            rows += [row for row, answer in self.right if row != right]
            self.assert_all_bad(many, [row for row in rows + odd_things() if row != right])

    def test_house(self):
        h = self.hamlet
        marks = [(("side", h.side), ("main", h.third)), (("main", h.third), ("main", h.third)),
                 (("main", h.second), ("main", h.third)), (("main", h.old),), (("main", 13),), (("main", -1),),
                 (("main", True),), (("main", None),), (("Main", h.third),), (("", h.third),), (("main",),),
                 (("main", h.third, 0),), (["main", h.third],), [("main", h.third)], ((h.third, "main"),), "main", None,
                 (("main", h.third), None), (("main", h.third), ("abcdefghi", h.third))]
        edges = [(h.third, h.second), (h.second, h.second), (h.old,), (13,), (-1,), (True,), [h.second], None,
                 h.second, (h.second, "9"), (-1, h.second)]
        changes = [-1, True, False, None, "11", (11,), -(10 ** 59)]
        rows = self.changed(0, 1, *marks) + self.changed(0, 2, *edges) + self.changed(0, 3, *changes)
        for place in range(4):
            for thing in odd_things():
                if not (place == 3 and thing in (10 ** 18 + 1, 10 ** 60 - 1)) and thing != ():
                    rows += self.changed(0, place, thing)
        self.assert_all_bad(0, rows)

    def test_house_of_anything_in_a_mark(self):
        h = self.hamlet
        rows = []
        for thing in odd_things():
            if thing not in ("a", "leaf", "tree", "version"):
                rows += self.changed(0, 1, ((thing, h.third),))
            rows += self.changed(0, 1, (("main", thing),), (thing,))
            rows += self.changed(0, 2, (thing,))
        self.assert_all_bad(0, rows)

    def test_changes_of_any_size(self):
        for changes in (0, 10 ** 59):
            self.told(0)
            self.asker.hear(self.right[0][1][:3] + (changes,))
            self.assertEqual(self.asker.say(), self.right[1][0])

    def test_truths(self):
        rows = [("have", truths) for truths in [(), (True, False), (False,) * 3, (0,), (1,), (None,), [False], False,
                                                None, ("no",), ((False,),), (11,)]]
        rows += [("have", (False,), ()), ("have",), ["have", (False,)], ("lack", (False,))]
        rows += [("have", thing) for thing in odd_things() if thing != (True,)]
        rows += [("have", (thing,)) for thing in odd_things() if not isinstance(thing, bool)]
        self.assert_all_bad(1, rows)

    def test_bill(self):
        h = self.hamlet
        names = [(h.third, h.second), (h.third, h.third), (h.third, 13), (-1, h.third), [h.third], None, h.third, (True,),
                 (h.third, None), (h.two, h.new, h.second), ()]
        gone = [(h.own, h.mine), (h.mine, h.mine), (13,), (-1,), [h.mine], None, h.mine, (True,), (h.mine, "x"),
                (h.third,), (h.two, h.mine)]
        offer = [(h.other, h.one), (h.one, h.one), (13,), (-1,), [h.one], None, h.one, (False,), (h.one, h.low),
                 (h.one, h.first), (h.old,)]
        rows = self.changed(3, 1, *names) + self.changed(3, 2, *gone) + self.changed(3, 3, *offer)
        for place in range(4):
            for thing in odd_things():
                if not (place in (2, 3) and thing == ()):
                    rows += self.changed(3, place, thing) if (place, thing) != (2, (1, 2, 3)) else []
        self.assert_all_bad(3, rows)

    def test_a_start_in_the_view_need_not_be_billed(self):
        h = self.hamlet
        self.here.put(h.third)
        asker = Asker(self.here, "there", ("main",))
        asker.hear(("house", (("main", h.third),), (), 3))
        while asker.say()[0] == "have":
            asker.hear(("have", (False,) * len(asker.say()[1])))
        asker.hear(("bill", (), (), ()))
        self.assertEqual(asker.say(), ("lack", (), ()))

    def test_a_start_held_later_must_be_billed(self):
        self.told(3)
        self.here.put(self.hamlet.third)
        self.assert_bad(("bill", (), (), ()))
        self.asker.hear(("bill", (self.hamlet.third,), (), ()))
        self.assertEqual(self.asker.say(), ("lack", (), ()))

    def test_a_start_told_as_gone(self):
        h = self.hamlet
        self.told(3)
        self.assert_bad(("bill", (), (h.third,), ()))
        self.assert_bad(("bill", (h.second,), (h.third,), ()))

    def test_pack(self):
        rows = [("pack", many, 19) for many in (0, 3, 5, -4, True, None, "4", (4,), 10 ** 59)]
        rows += [("pack", 4, cost) for cost in (-1, True, False, None, "19", (), [19], -(10 ** 59))]
        rows += [("pack", 4), ("pack", 4, 19, 0), ["pack", 4, 19]]
        self.assert_all_bad(4, rows)

    def test_pack_of_a_truth(self):
        h = self.hamlet
        for names, truth in [((h.bare, h.third), True), ((h.third,), True), ((h.bare,), False)]:
            self.told(3)
            if not truth:
                self.here.put(h.third)
            self.asker.hear(("bill", names + ((h.third,) if not truth else ()), (), ()))
            self.assertEqual(len(self.asker.say()[1]), int(truth))
            self.assert_bad(("pack", truth, 0))
            self.asker.hear(("pack", int(truth), 0))

    def test_row(self):
        h = self.hamlet
        right = self.right[5][1][2]
        rows = [("row", k, right) for k in (-1, 1, 2, True, False, None, "0", (0,))]
        wrong = [(h.one, "plain", h.book.thing(h.one)), (h.side, "plain", h.book.thing(h.side)),
                 (h.two, "plain", h.book.thing(h.one)), (h.one, "plain", h.book.thing(h.two)),
                 (h.two, "over", h.one, (("take", 0, 5), ("put", ("y",)))), (h.two, "over", h.one, ()),
                 (h.two, "over", h.two, (("take", 0, 6),)), (h.two, "over", h.low, (("take", 0, 5), ("put", ("x",)))),
                 (h.two, "over", h.one, (("take", 0, 9), ("put", ("x",)))), (True, *right[1:]), list(right),
                 right[:3], right + (0,), (h.two, "Over", *right[2:]), (13, "plain", ("leaf", ("new",))),
                 (h.bare, "plain", ("tree", ()))]
        rows += [("row", 0, row) for row in wrong + odd_things()]
        rows += [("row", 0), ("row", 0, right, 0), ["row", 0, right]]
        self.assert_all_bad(5, rows)
        self.assertEqual(len(self.hamlet.book), 13)

    def test_a_row_that_came_already(self):
        h = self.hamlet
        for many in range(6, 9):
            came = [answer[2] for row, answer in self.right[5:many]]
            self.assert_all_bad(many, [("row", many - 5, row) for row in came] + [self.right[many - 1][1]])

    def test_a_base_that_has_not_come(self):
        h = self.hamlet
        house = housed(h.book, ())
        asker = Asker(house, "there", ("side",))
        asker.hear(self.right[0][1])
        asker.hear(("bill", (h.one, h.two, h.side), (), ()))
        asker.hear(("pack", 3, 0))
        over = self.right[5][1][2]
        self.assert_refused(BadRow, {}, asker.hear, ("row", 0, over))
        asker.hear(("row", 0, (h.one, "plain", h.book.thing(h.one))))
        asker.hear(("row", 1, over))
        self.assertEqual(asker.came(), (h.one, h.two))

    def test_done(self):
        self.assert_all_bad(9, [("Done",), ("done", ()), ["done"], "done", (), ("hello",), ("done", "done")])


class Known(Case):
    """Point 50."""

    def again(self, **more):
        return Asker(self.here, "there", ("main",), known=self.asker, **more)

    def test_the_old_one_is_over_and_its_pins_are_on_the_new_one(self):
        for many in range(11):
            self.told(many)
            held = self.here.held()
            self.here.put(self.hamlet.side)
            new = self.again()
            self.assertTrue(self.asker.over())
            self.assertIsNone(self.asker.say())
            self.assert_refused(BadRow, {}, self.asker.hear, DONE)
            self.assertEqual([name for name in held if name not in self.here.roots()], [])
            self.asker.drop()
            self.assertEqual((self.here.sweep(deep=0), new.say()), ([], HELLO))
            new.drop()
            self.assertEqual(self.here.roots(), [] if many < 10 else [self.hamlet.third])

    def test_what_is_known_of_the_same_changes(self):
        h = self.hamlet
        for many, answers in [(0, ()), (1, ()), (2, ((h.mine, False),)), (3, ((h.first, True), (h.mine, False))),
                              (7, ((h.first, True), (h.mine, False))),
                              (8, ((h.first, True), (h.second, True), (h.mine, False))),
                              (9, ((h.first, True), (h.second, True), (h.third, True), (h.mine, False))),
                              (10, ((h.first, True), (h.second, True), (h.third, True), (h.mine, False)))]:
            self.told(many)
            new = self.again()
            self.assert_refused(Unsettled, {"version": None}, new.answers)
            new.hear(self.right[0][1])
            self.assertEqual(new.answers(), answers)

    def test_nothing_is_known_of_other_changes(self):
        h = self.hamlet
        for many, changes in itertools.product((2, 3, 8), (0, 10, 12)):
            self.told(many)
            new = self.again()
            new.hear(self.right[0][1][:3] + (changes,))
            self.assertEqual(new.answers(), ())
        self.told(10)
        new = self.again()
        new.hear(self.right[0][1][:3] + (12,))
        self.assertEqual(new.answers(), ((h.third, True),))

    def test_gone_on_behind_each_row(self):
        h = self.hamlet
        for many in range(11):
            self.told(many)
            came, asked = self.asker.came(), dict(self.asker.answers()) if many else {}
            new = self.again()
            rows = talked(new, Teller(self.there))
            names = [name for row, answer in rows if row[0] == "have" for name in row[1]]
            self.assertEqual([name for name in names if name in asked], [])
            self.assertEqual([name for name in new.came() if name in came], [])
            self.assertEqual(sorted(came + new.came()), [h.two, h.new, h.second, h.third])
            self.assertEqual(self.here.held(), [*range(10), h.mine, h.own])
            self.assertEqual(self.here.far(), [("there", "main", h.third)])
            self.assertEqual(self.here.roots(), [h.third])

    def test_gone_on_with_other_changes(self):
        h = self.hamlet
        for many in range(11):
            self.told(many)
            self.there.put(h.own)
            new = self.again()
            talked(new, Teller(self.there))
            self.assertEqual(new.common()[-1], h.own)
            self.assertEqual(self.here.held(), [*range(10), h.mine, h.own])

    def test_other_wishes(self):
        h = self.hamlet
        self.told(8)
        new = Asker(self.here, "there", ("side",), deep=0, under=("doc",), also=(h.low,), few=1, known=self.asker)
        rows = talked(new, Teller(self.there))
        self.assertEqual([row for row, answer in rows if row[0] == "have"], [])
        self.assertEqual(rows[1][0], ("want", (h.side,), 0, ("doc",), (h.first, h.second), True, (h.low,)))
        self.assertEqual(new.came(), (h.side,))

    def test_one_by_one(self):
        h = self.hamlet
        self.told(2)
        second = self.again()
        second.hear(self.right[0][1])
        self.assertEqual(second.say(), ("have", (h.first,)))
        third = Asker(self.here, "there", ("main",), known=second)
        third.hear(self.right[0][1])
        self.assertEqual(third.answers(), ((h.mine, False),))
        # One that has heard nothing knows nothing, whatever was known to it.
        fourth = Asker(self.here, "there", ("main",), known=third)
        fifth = Asker(self.here, "there", ("main",), known=fourth)
        fifth.hear(self.right[0][1])
        self.assertEqual(fifth.answers(), ())

    def test_known_answers_go_ahead_of_what_is_told(self):
        h = self.hamlet
        self.told(3)
        new = self.again()
        new.hear(("house", (("main", h.third), ("mine", h.mine)), (), 11))
        self.assertEqual(new.answers(), ((h.first, True), (h.mine, False)))

    def test_versions_that_are_no_more_held(self):
        h = self.hamlet
        self.told(3)
        self.asker.drop()
        self.here.pin((h.first,))
        self.here.sweep()
        new = self.again()
        new.hear(self.right[0][1])
        self.assertEqual((new.shape(), new.answers()), (((h.first,), ()), ((h.first, True),)))

    def test_behind_contrary(self):
        house = housed(grown(DIAMOND), range(5))
        old = Asker(house, "there", (), few=20)
        old.hear(("house", (), (), 7))
        names = old.say()[1]
        for truths in itertools.product((False, True), repeat=len(names)):
            old = Asker(house, "there", (), few=20)
            old.hear(("house", (), (), 7))
            told = told_or_refused(lambda: old.hear(("have", truths)))
            new = Asker(house, "there", (), few=20, known=old)
            new.hear(("house", (), (), 7))
            self.assertEqual(new.answers(), old.answers())
            self.assertEqual(new.answers() == (), told is not None)


class Random(unittest.TestCase):
    def test_talks_gone_on_of_random_houses(self):
        dice = random.Random(50)
        for _ in range(60):
            book = random_book(dice, versions=8)
            other = housed(book, [name for name in range(len(book)) if dice.random() < 0.9])
            names = [name for name in range(len(book)) if dice.random() < 0.5]
            versions = [name for name in versions_of(book) if other.holds(name)]
            if not versions:
                continue
            other.move("main", old=None, new=max(versions))
            more = {"deep": dice.choice([0, 1, 2, ALL]), "under": tuple(sorted(dice.sample("abc", dice.randrange(3)))),
                    "also": tuple(sorted(dice.sample(range(len(book)), 2))), "few": dice.choice([1, 4])}
            straight = housed(book, names)
            many = len(talked(Asker(straight, "x", ("main",), **more), Teller(other)))
            for cut in range(many + 1):
                house = housed(book, names)
                old, teller = Asker(house, "x", ("main",), **more), Teller(other)
                talked(old, teller, cut)
                known, came = dict(old.answers()) if cut else {}, old.came()
                teller.drop()
                new = Asker(house, "x", ("main",), known=old, **more)
                rows = talked(new, Teller(other))
                asks = [name for row, answer in rows if row[0] == "have" for name in row[1]]
                self.assertEqual([name for name in asks if name in known], [])
                self.assertEqual(set(came) & set(new.came()), set())
                self.assertEqual((house.held(), house.far(), house.roots()),
                                 (straight.held(), straight.far(), straight.roots()))

    def test_what_is_wished_comes_and_nothing_else(self):
        dice = random.Random(46)
        for _ in range(200):
            book = random_book(dice, versions=8)
            house, other = [housed(book, [name for name in range(len(book)) if dice.random() < share])
                            for share in (0.5, 0.85)]
            versions = [name for name in versions_of(book) if other.holds(name)]
            marks = {mark: dice.choice(versions) for mark in "abc"} if versions else {}
            for mark, version in marks.items():
                other.move(mark, old=None, new=version)
            wishes = tuple(sorted(dice.sample(sorted(marks), dice.randrange(len(marks) + 1))))
            deep, under = dice.choice([0, 1, 2, ALL]), tuple(sorted(dice.sample("abc", dice.randrange(3))))
            also = tuple(sorted(dice.sample(range(len(book)), 2)))
            view, before = other.view(), house.held()
            near = reached(view, tuple(marks[wish] for wish in wishes), deep=deep)
            wished = {name for name in wanted(view, near, under=under)[0] + also if view.holds(name)}
            asker = Asker(house, "x", wishes, deep=deep, under=under, also=also)
            talked(asker, Teller(other))
            self.assertEqual(sorted(asker.came()), sorted(wished - set(before)))
            self.assertEqual(house.held(), sorted(wished | set(before)))
            lacking = set(wanted(view, near, under=under)[1]) | {name for name in also if not view.holds(name)}
            self.assertTrue(lacking - set(before) <= set(asker.gone()))
            self.assertFalse(set(asker.gone()) & set(view.names()))
            self.assertEqual(house.far(), [("x", wish, marks[wish]) for wish in wishes])
            self.assertEqual(house.roots(), sorted({marks[wish] for wish in wishes}))
            self.assertEqual(other.roots(), sorted(set(marks.values())))

    def test_a_view_is_never_changed(self):
        h = Hamlet()
        view = h.here.view()
        asker = Asker(h.here, "there", ("main",))
        talked(asker, Teller(h.there))
        self.assertTrue(view == Holding(h.book, (0, 2, 3, 4, 6, 7, 11, 12)))


if __name__ == "__main__":
    unittest.main()
