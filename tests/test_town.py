"""Points 54 and 55: a town."""

import itertools
import random
import unittest

from samples import house_state, odd_things, random_book, versions_of

from fewasks.book import MOST, Book
from fewasks.errors import BadRow, Broken, NoHouse, NoMark, NoTalk, NotAhead, Stale, Taken, TooMany
from fewasks.house import House
from fewasks.reach import ALL
from fewasks.town import TALKS, Town


class Case(unittest.TestCase):
    """A town with the houses north, south and west.

    north holds all: one, with the root old, two over it and three over two, both with the root new. Its marks are
    main, on three, and past, on one. south holds one and its things, west nothing.
    """

    def setUp(self):
        self.town = Town()
        self.north, self.south, self.west = [self.town.build(label) for label in ("north", "south", "west")]
        self.leaf = self.north.write(("leaf", tuple("abcdef")))
        self.near = self.north.write(("leaf", tuple("abcdex")))
        self.old = self.north.write(("tree", (("a", self.leaf),)))
        self.new = self.north.write(("tree", (("a", self.near), ("b", self.leaf))))
        self.one = self.north.write(("version", (), self.old, 1))
        self.two = self.north.write(("version", (self.one,), self.new, 2))
        self.three = self.north.write(("version", (self.two,), self.new, 3))
        self.north.move("main", old=None, new=self.three)
        self.north.move("past", old=None, new=self.one)
        for name in (self.leaf, self.old, self.one):
            self.south.put(name)
        self.sent = (self.near, self.new, self.two, self.three)

    def houses(self):
        return [house_state(self.town.house(label)) for label in self.town.labels()]

    def assert_refused(self, error, fields, ask, *args, **more):
        before = self.houses()
        with self.assertRaises(error) as caught:
            ask(*args, **more)
        self.assertIs(type(caught.exception), error)
        told = vars(caught.exception)
        self.assertEqual(told, fields)
        self.assertEqual([type(value) for value in told.values()], [type(value) for value in fields.values()])
        self.assertEqual(self.houses(), before)

    def steps(self, talk):
        """All rows and answers to the end of a talk."""
        told = []
        while True:
            pair = self.town.step(talk)
            if pair is None:
                return told
            told.append(pair)


class Houses(Case):
    def test_a_new_town(self):
        town = Town()
        self.assertIsInstance(town.book, Book)
        self.assertEqual((town.labels(), len(town.book)), ([], 0))
        self.assert_refused(NoHouse, {"label": "a"}, town.house, "a")

    def test_its_methods_stand_in_the_class_itself(self):
        for word in "build house labels begin again step cut drop pull give sweep".split():
            self.assertIn(word, vars(Town))

    def test_build(self):
        self.assertIsInstance(self.north, House)
        self.assertIs(self.north.book, self.town.book)
        self.assertIs(self.town.house("north"), self.north)
        self.assertIs(self.town.house("south"), self.south)
        self.assertEqual((self.west.held(), self.west.changes()), ([], 0))
        self.assertEqual(self.town.labels(), ["north", "south", "west"])
        self.town.build("a")
        self.assertEqual(self.town.labels(), ["a", "north", "south", "west"])

    def test_taken(self):
        for label in ("north", "south", "west"):
            self.assert_refused(Taken, {"label": label}, self.town.build, label)
            self.assertEqual(self.town.labels(), ["north", "south", "west"])
        self.assertIs(self.town.house("north"), self.north)

    def test_no_house(self):
        for label in ("nort", "northh", "", "North", *odd_things()):
            self.assert_refused(NoHouse, {"label": label}, self.town.house, label)
            self.assert_refused(NoHouse, {"label": label}, self.town.sweep, label)

    def test_labels_may_be_changed_by_whoever_asked(self):
        self.town.labels().clear()
        self.assertEqual(self.town.labels(), ["north", "south", "west"])

    def test_two_towns(self):
        other = Town()
        other.build("north")
        self.assertIsNot(other.book, self.town.book)
        self.assertEqual(other.house("north").held(), [])

    def test_sweep(self):
        self.south.move("main", old=None, new=self.one)
        self.south.put(self.near)
        self.assertEqual(self.town.sweep("south"), [self.near])
        self.assertEqual(self.town.sweep("south"), [])
        self.assertEqual(self.town.sweep("north"), [])
        self.south.move("main", old=self.one, new=None, back=True)
        self.assertEqual(self.town.sweep("south"), [self.leaf, self.old, self.one])


class Steps(Case):
    def test_talks_is_sixty(self):
        self.assertEqual(TALKS, 60)

    def test_numbers(self):
        self.assertEqual(self.town.begin("south", "north", ("main",)), 0)
        self.assertEqual(self.town.begin("west", "north", ("main",)), 1)
        self.assertEqual(self.town.again(0), 2)
        self.town.pull("west", "south", ())
        self.assertEqual(self.town.begin("north", "north", ()), 3)
        self.assertEqual(self.town.again(2), 4)

    def test_row_by_row(self):
        talk = self.town.begin("south", "north", ("main",))
        told = self.steps(talk)
        self.assertEqual(told, [
            (("hello",), ("house", (("main", self.three), ("past", self.one)), (), 7)),
            (("want", (self.three,), ALL, (), (self.one,), True, ()), ("bill", self.sent, (), (self.leaf,))),
            (("lack", self.sent, (self.leaf,)), ("pack", 4, 19)),
            (("row", 0), ("row", 0, (self.near, "over", self.leaf, (("take", 0, 5), ("put", ("x",)))))),
            (("row", 1), ("row", 1, (self.new, "plain", self.town.book.thing(self.new)))),
            (("row", 2), ("row", 2, (self.two, "plain", self.town.book.thing(self.two)))),
            (("row", 3), ("row", 3, (self.three, "plain", self.town.book.thing(self.three)))),
            (("done",), ("done",))])
        self.assertEqual(self.south.held(), list(range(7)))
        self.assertEqual((self.south.far(), self.south.roots()), ([("north", "main", self.three)], [self.three]))
        self.assertEqual(self.north.roots(), [self.one, self.three])
        for _ in range(3):
            self.assertIsNone(self.town.step(talk))

    def test_with_all_that_may_be_told(self):
        talk = self.town.begin("west", "north", ("main", "past"), deep=0, under=("b",), also=(self.near,), few=1)
        want = self.steps(talk)[1][0]
        self.assertEqual(want, ("want", (self.one, self.three), 0, ("b",), (), True, (self.near,)))
        self.assertEqual(self.west.held(), [self.leaf, self.near, self.old, self.new, self.one, self.three])

    def test_few(self):
        for name in range(40):
            self.west.put(self.west.write(("version", (), self.old, 100 + name)))
        for few in (1, 4, 20):
            told = self.steps(self.town.begin("west", "north", (), few=few))
            self.assertEqual({len(row[1]) for row, answer in told if row[0] == "have"}, {few})
        told = self.steps(self.town.begin("west", "north", ()))
        self.assertEqual({len(row[1]) for row, answer in told if row[0] == "have"}, {4})

    def test_no_house_for_to_ahead_of_the_one_for_of(self):
        for ask in (self.town.begin, self.town.pull):
            self.assert_refused(NoHouse, {"label": "x"}, ask, "x", "y", ("main",))
            self.assert_refused(NoHouse, {"label": "x"}, ask, "x", "north", ("main",))
            self.assert_refused(NoHouse, {"label": "y"}, ask, "north", "y", ("main",))
        self.assertEqual(self.town.begin("south", "north", ()), 0)

    def test_talks_and_one_more(self):
        for number in range(TALKS - 1):
            self.assertEqual(self.town.begin("west", "north", ()), number)
            if number:
                self.town.drop(number)
        self.assertEqual(self.town.again(0), TALKS - 1)
        self.assert_refused(TooMany, {}, self.town.begin, "west", "north", ("main",))
        self.assert_refused(TooMany, {}, self.town.again, TALKS - 1)
        self.assertEqual(self.town.step(TALKS - 1)[0], ("hello",))
        self.assert_refused(NoHouse, {"label": "x"}, self.town.begin, "x", "y", ("main",))
        self.assert_refused(NoHouse, {"label": "y"}, self.town.begin, "west", "y", ("main",))
        self.assert_refused(NoTalk, {"number": 0}, self.town.again, 0)
        self.assert_refused(NoTalk, {"number": TALKS}, self.town.again, TALKS)
        self.assertEqual(self.town.pull("west", "north", ("past",)), (self.leaf, self.old, self.one))

    def test_numbers_of_no_talk(self):
        self.town.begin("south", "north", ("main",))
        self.town.begin("west", "north", ("main",))
        for number in (-1, 2, 3, 10 ** 59, True, False, None, "0"):
            for ask in (self.town.step, self.town.cut, self.town.drop, self.town.again):
                self.assert_refused(NoTalk, {"number": number}, ask, number)

    def test_what_hear_refuses(self):
        for wishes, least in [(("none",), "none"), (("a", "b", "main"), "a"), (("main", "z"), "z")]:
            roots = (self.south.roots(), self.north.roots())
            talk = self.town.begin("south", "north", wishes)
            with self.assertRaises(NoMark) as caught:
                self.town.step(talk)
            self.assertEqual(caught.exception.mark, least)
            self.assertEqual((self.south.roots(), self.north.roots()), roots)
            self.assertIsNone(self.town.step(talk))
            self.assert_refused(NoTalk, {"number": talk}, self.town.again, talk)
            self.town.cut(talk)
            self.town.drop(talk)
            self.assertIsNone(self.town.step(talk))

    def test_what_answer_refuses_changes_nothing(self):
        talk = self.town.begin("west", "north", ("main",), under=tuple("abcdefghijk"))
        self.town.step(talk)
        for _ in range(2):
            self.assert_refused(BadRow, {}, self.town.step, talk)

    def test_of_one_house(self):
        told = self.steps(self.town.begin("north", "north", ("main",)))
        self.assertEqual(told[-1][0], ("done",))
        self.assertEqual((self.north.far(), self.north.changes()), ([("north", "main", self.three)], 7))

    def test_several_talks_stepped_in_any_order(self):
        for order in itertools.permutations((0, 1, 2)):
            self.setUp()
            self.west.put(self.one)
            talks = [self.town.begin("south", "north", ("main",)), self.town.begin("west", "north", ("past",)),
                     self.town.begin("west", "south", ())]
            going = list(order)
            while going:
                going = [talk for talk in going if self.town.step(talks[talk]) is not None]
            self.assertEqual(self.south.held(), list(range(7)))
            self.assertEqual(self.west.held(), [self.leaf, self.old, self.one])
            self.assertEqual(self.west.far(), [("north", "past", self.one)])


class Cuts(Case):
    def test_cut_then_step(self):
        for many in range(8):
            self.setUp()
            talk = self.town.begin("south", "north", ("main",))
            for _ in range(many):
                self.town.step(talk)
            pinned = self.south.roots()
            self.assertIsNone(self.town.cut(talk))
            self.assertEqual(self.north.roots(), [self.one, self.three])
            self.assertEqual(self.south.roots(), pinned)
            for _ in range(2):
                self.assert_refused(NoTalk, {"number": talk}, self.town.step, talk)
            self.assertIsNone(self.town.cut(talk))

    def test_cut_then_drop(self):
        talk = self.town.begin("south", "north", ("main",))
        self.town.step(talk)
        self.town.cut(talk)
        self.assertIsNone(self.town.drop(talk))
        self.assertEqual(self.south.roots(), [])
        self.assertIsNone(self.town.step(talk))
        self.assert_refused(NoTalk, {"number": talk}, self.town.again, talk)

    def test_drop(self):
        for many in range(8):
            self.setUp()
            talk = self.town.begin("south", "north", ("main",))
            for _ in range(many):
                self.town.step(talk)
            held = self.south.held()
            self.assertIsNone(self.town.drop(talk))
            self.assertEqual((self.south.roots(), self.north.roots()), ([], [self.one, self.three]))
            self.assertEqual((self.south.held(), self.south.far()), (held, []))
            self.assertIsNone(self.town.step(talk))
            self.assertIsNone(self.town.drop(talk))
            self.assertIsNone(self.town.cut(talk))
            self.assertIsNone(self.town.step(talk))

    def test_cut_and_drop_of_what_is_over(self):
        talk = self.town.begin("south", "north", ("main",))
        self.steps(talk)
        before = self.houses()
        self.assertIsNone(self.town.cut(talk))
        self.assertIsNone(self.town.step(talk))
        self.assertIsNone(self.town.drop(talk))
        self.assertIsNone(self.town.step(talk))
        self.assertEqual(self.houses(), before)
        self.assert_refused(NoTalk, {"number": talk}, self.town.again, talk)

    def test_again_behind_each_row(self):
        for many, cut in itertools.product(range(8), (False, True)):
            self.setUp()
            first = self.town.begin("south", "north", ("main",), few=2)
            for _ in range(many):
                self.town.step(first)
            came = [name for name in self.sent if self.south.holds(name)]
            if cut:
                self.town.cut(first)
            second = self.town.again(first)
            self.assertEqual(second, 1)
            self.assertIsNone(self.town.step(first))
            self.assertEqual(self.south.sweep(deep=0), [])
            told = self.steps(second)
            sent = [answer[2][0] for row, answer in told if row[0] == "row"]
            self.assertEqual(sent, [name for name in self.sent if name not in came])
            self.assertEqual(self.south.held(), list(range(7)))
            self.assertEqual(self.houses()[1][5:], ([("north", "main", self.three)], [self.three]))
            self.assertEqual(self.north.roots(), [self.one, self.three])

    def test_again_wishes_the_same(self):
        first = self.town.begin("west", "north", ("main", "past"), deep=1, under=("a", "c"), also=(self.leaf,), few=1)
        for _ in range(2):
            self.town.step(first)
        told = self.steps(self.town.again(first))
        self.assertEqual(told[1][0], ("want", (self.one, self.three), 1, ("a", "c"), (), True, (self.leaf,)))
        self.assertEqual(self.west.far(), [("north", "main", self.three), ("north", "past", self.one)])

    def test_again_asks_nothing_again(self):
        for stamp in range(9):
            self.west.write(("version", (), self.old, 50 + stamp))
        first = self.town.begin("west", "north", ("main",), few=4)
        asked = [self.town.step(first)[0] for _ in range(2)][1][1]
        self.assertEqual(len(asked), 4)
        told = self.steps(self.town.again(first))
        names = [name for row, answer in told if row[0] == "have" for name in row[1]]
        self.assertEqual((len(names), set(names) & set(asked)), (5, set()))

    def test_again_with_other_changes_asks_anew(self):
        for stamp in range(9):
            self.west.write(("version", (), self.old, 50 + stamp))
        first = self.town.begin("west", "north", ("main",), few=4)
        for _ in range(2):
            self.town.step(first)
        self.north.write(("leaf", ("more",)))
        told = self.steps(self.town.again(first))
        self.assertEqual(len([name for row, answer in told if row[0] == "have" for name in row[1]]), 9)


class Pulls(Case):
    def test_what_came_in_order(self):
        self.assertEqual(self.town.pull("south", "north", ("main",)), self.sent)
        self.assertEqual(self.south.held(), list(range(7)))
        self.assertEqual((self.south.far(), self.south.roots()), ([("north", "main", self.three)], [self.three]))
        self.assertEqual(self.north.roots(), [self.one, self.three])
        self.assertEqual(self.town.pull("south", "north", ("main",)), ())

    def test_with_all_that_may_be_told(self):
        came = self.town.pull("west", "north", ("main",), deep=1, under=("b",), also=(self.old,), few=1, most=9)
        self.assertEqual(came, (self.leaf, self.old, self.new, self.two, self.three))

    def test_shallow_then_deeper_then_all(self):
        self.assertEqual(set(self.town.pull("west", "north", ("main",), deep=0)), {self.leaf, self.near, self.new, self.three})
        self.assertEqual(self.west.view().edges(), [self.three])
        self.assertEqual(self.town.pull("west", "north", ("main",), deep=1), (self.two,))
        self.assertEqual(self.town.pull("west", "north", ("main",)), (self.old, self.one))

    def test_labels_then_more_of_them(self):
        self.assertEqual(self.town.pull("west", "north", ("main",), under=("b",)),
                         (self.leaf, self.old, self.new, self.one, self.two, self.three))
        self.assertEqual(self.town.pull("west", "north", ("main",), under=("a", "b")), (self.near,))
        self.assertEqual(self.town.pull("west", "north", ("main",)), ())

    def test_most(self):
        for most in range(12):
            self.setUp()
            if most >= 8:
                self.assertEqual(self.town.pull("south", "north", ("main",), most=most), self.sent)
                continue
            with self.assertRaises(Broken) as caught:
                self.town.pull("south", "north", ("main",), most=most)
            self.assertEqual(vars(caught.exception), {"rows": most})
            came = [name for name in self.sent if self.south.holds(name)]
            self.assertEqual(came, list(self.sent[:max(0, most - 3)]))
            self.assertEqual((self.south.roots(), self.north.roots()), ([], [self.one, self.three]))
            self.assertEqual(self.south.far(), [])
            self.assertEqual(self.town.pull("south", "north", ("main",)), self.sent[len(came):])

    def test_most_left_out_is_four_hundred(self):
        # hello, want, lack, done and a row for each thing: 396 of them are just enough.
        for many, enough in [(396, True), (397, False)]:
            town = Town()
            north, south = town.build("north"), town.build("south")
            names = [north.write(("leaf", (str(k),))) for k in range(20)]
            tree = north.write(("tree", tuple(zip("abcdefghijklmnopqrst", names))))
            last = ()
            while len(north) < many:
                last = (north.write(("version", last, tree, len(north))),)
            north.move("main", old=None, new=last[0])
            self.assertEqual(MOST, 400)
            if enough:
                self.assertEqual(len(town.pull("south", "north", ("main",))), many)
            else:
                with self.assertRaises(Broken) as caught:
                    town.pull("south", "north", ("main",))
                self.assertEqual(caught.exception.rows, 400)
                self.assertEqual((len(south), south.far(), south.roots()), (many, [], []))

    def test_no_mark(self):
        self.assert_refused(NoMark, {"mark": "none"}, self.town.pull, "south", "north", ("main", "none"))

    def test_no_pin_is_left_where_answer_refuses(self):
        for more in [{"under": tuple("abcdefghijk")}, {"deep": ALL + 1}]:
            self.assert_refused(BadRow, {}, self.town.pull, "south", "north", ("main",), **more)

    def test_has_no_number(self):
        for _ in range(TALKS + 1):
            self.town.pull("south", "north", ("main",))
        self.assertEqual(self.town.begin("south", "north", ()), 0)
        self.assert_refused(NoTalk, {"number": 1}, self.town.step, 1)


class Gives(Case):
    def test_with_old_right(self):
        self.assertIsNone(self.town.give("north", "south", "past", old=None))
        self.assertEqual((self.south.marks(), self.south.far()), ([("past", self.one)], [("north", "past", self.one)]))
        self.south.move("main", old=None, new=self.one)
        told = self.town.give("north", "south", "main", old=self.one)
        self.assertEqual(told, ("ahead", (self.three, self.two, self.one)))
        self.assertEqual(self.south.marks(), [("main", self.three), ("past", self.one)])
        self.assertEqual(self.south.far(), [("north", "main", self.three), ("north", "past", self.one)])
        self.assertEqual(self.south.held(), list(range(7)))
        self.assertEqual(self.south.trail()[-1], ("main", self.one, self.three, False))

    def assert_given(self, error, fields, mark, **more):
        """Refused by move, so what came stays, and the far mark."""
        marks, trail = self.south.marks(), self.south.trail()
        with self.assertRaises(error) as caught:
            self.town.give("north", "south", mark, **more)
        self.assertEqual(vars(caught.exception), fields)
        self.assertEqual((self.south.marks(), self.south.trail()), (marks, trail))
        self.assertIn(("north", mark, self.north.at(mark)), self.south.far())
        self.assertTrue(self.south.holds(self.north.at(mark)))

    def test_stale(self):
        for old in (self.one, self.two, self.three, 99):
            self.setUp()
            self.assert_given(Stale, {"mark": "main", "there": None}, "main", old=old)
            self.assert_given(Stale, {"mark": "main", "there": None}, "main", old=old, back=True)
        self.setUp()
        self.south.move("main", old=None, new=self.one)
        for old in (None, self.two, self.three):
            self.assert_given(Stale, {"mark": "main", "there": self.one}, "main", old=old)
        self.assertEqual(self.south.held(), list(range(7)))

    def test_back(self):
        own = self.south.write(("version", (self.one,), self.old, 9))
        self.south.move("main", old=None, new=own)
        why = ("apart", (self.one, self.two, self.three), ())
        self.assert_given(NotAhead, {"mark": "main", "why": why}, "main", old=own)
        self.assert_given(NotAhead, {"mark": "main", "why": why}, "main", old=own, back=False)
        self.assertEqual(self.town.give("north", "south", "main", old=own, back=True), why)
        self.assertEqual(self.south.at("main"), self.three)
        self.assertEqual(self.south.trail()[-1], ("main", own, self.three, True))

    def test_no_house_then_no_mark(self):
        self.assert_refused(NoHouse, {"label": "x"}, self.town.give, "y", "x", "none", old=None)
        self.assert_refused(NoHouse, {"label": "x"}, self.town.give, "north", "x", "none", old=None)
        self.assert_refused(NoHouse, {"label": "y"}, self.town.give, "y", "south", "none", old=None)
        self.south.move("none", old=None, new=self.one)
        for mark in ("none", "mai", *odd_things()):
            self.assert_refused(NoMark, {"mark": mark}, self.town.give, "north", "south", mark, old=None)

    def test_everything_under_it(self):
        self.town.give("north", "west", "main", old=None)
        self.assertEqual(self.west.held(), list(range(7)))

    def test_to_the_house_itself(self):
        self.assertEqual(self.town.give("north", "north", "main", old=self.three), ("ahead", (self.three,)))
        self.assertEqual(self.north.far(), [("north", "main", self.three)])

    def test_broken(self):
        town = Town()
        north, south = town.build("north"), town.build("south")
        tree, last = north.write(("tree", ())), ()
        while len(north) < 398:
            last = (north.write(("version", last, tree, len(north))),)
        north.move("main", old=None, new=last[0])
        with self.assertRaises(Broken) as caught:
            town.give("north", "south", "main", old=None)
        self.assertEqual(caught.exception.rows, 400)
        self.assertEqual((len(south), south.marks(), south.far(), south.roots()), (397, [], [], []))
        self.assertIsNone(town.give("north", "south", "main", old=None))
        self.assertEqual(south.marks(), [("main", last[0])])

    def test_has_no_number(self):
        self.town.give("north", "south", "main", old=None)
        self.assertEqual(self.town.begin("south", "north", ()), 0)


class Deeds(unittest.TestCase):
    """Several talks between three houses, with puts, moves, sweeps and cuts between the steps."""

    def deed(self, dice, town, house):
        versions = [name for name in house.held() if town.book.kind(name) == "version"]
        which = dice.randrange(4)
        if which == 0:
            house.put(dice.randrange(len(town.book)))
        elif which == 1 and versions:
            mark = dice.choice("ab")
            old = dict(house.marks()).get(mark)
            house.move(mark, old=old, new=dice.choice(versions), back=True)
        elif which == 2:
            held = house.held()
            kept = house.kept(deep=1)
            self.assertEqual(house.sweep(deep=1), [name for name in held if name not in kept])
        else:
            self.assertEqual([name for name in house.roots() if not house.holds(name)], [])

    def grown_town(self, dice):
        town, book = Town(), random_book(dice, versions=8)
        for name in range(len(book)):
            self.assertEqual(town.book.named(book.thing(name)), name)
        for label in "xyz":
            house = town.build(label)
            for name in range(len(book)):
                if dice.random() < 0.6:
                    house.put(name)
            versions = [name for name in versions_of(book) if house.holds(name)] or [house.write(book.thing(len(book) - 1))]
            for mark in "ab":
                house.move(mark, old=None, new=dice.choice(versions))
        return town

    def test_talks_between_three_houses(self):
        for seed in range(40):
            dice = random.Random(seed)
            town = self.grown_town(dice)
            going, told = [], {}
            for _ in range(120):
                choice = dice.random()
                if choice < 0.1 and len(going) < 6:
                    to, of = dice.choice("xyz"), dice.choice("xyz")
                    number = town.begin(to, of, ("a", "b"), deep=dice.choice([0, 1, ALL]), few=dice.choice([1, 4]))
                    going.append(number)
                    told[number] = (to, of)
                elif choice < 0.15 and going:
                    old = dice.choice(going)
                    if dice.random() < 0.5:
                        town.cut(old)
                    going[going.index(old)] = number = town.again(old)
                    told[number] = told[old]
                elif choice < 0.7 and going:
                    number = dice.choice(going)
                    pair = town.step(number)
                    if pair[0] == ("hello",):
                        told[number] = told[number][:2] + (dict(pair[1][1]),)
                    elif pair[0] == ("done",):
                        going.remove(number)
                        self.assertIsNone(town.step(number))
                        to, of, marks = told[number]
                        far = town.house(to).far()
                        self.assertTrue(all((of, mark, marks[mark]) in far for mark in "ab"))
                else:
                    self.deed(dice, town, town.house(dice.choice("xyz")))
            for number in going:
                town.drop(number)
            for label in "xyz":
                house = town.house(label)
                due = {version for mark, version in house.marks()} | {version for _, _, version in house.far()}
                self.assertEqual(house.roots(), sorted(due))

    def test_steps_do_what_pull_does(self):
        for seed in range(30):
            told = []
            for whole in (False, True):
                town = self.grown_town(random.Random(seed))
                if whole:
                    came = town.pull("x", "y", ("a",), deep=1)
                else:
                    number = town.begin("x", "y", ("a",), deep=1)
                    rows = []
                    while (pair := town.step(number)) is not None:
                        rows.append(pair)
                    came = tuple(answer[2][0] for row, answer in rows if row[0] == "row")
                told.append((came, [house_state(town.house(label)) for label in "xyz"]))
            self.assertEqual(*told)


if __name__ == "__main__":
    unittest.main()
