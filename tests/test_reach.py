"""Points 18, 19 and 20: what is reached, what is missing, and ways."""

import itertools
import random
import unittest

from samples import Family, SevenVersions, grown, laddered, odd_things, rowed

from fewasks.errors import NoName
from fewasks.holding import Holding
from fewasks.reach import ALL, missing, reached, right_ways, ways

DEEPS = (0, 1, 2, 3, ALL)


def random_view(dice, many):
    parents = [tuple(sorted(dice.sample(range(1, k + 1), dice.randrange(min(k, 4) + 1)))) for k in range(many)]
    book = grown(parents)
    return Holding(book, dice.sample(range(many + 1), dice.randrange(many // 2, many + 1)))


def all_ways(view, starts, deep):
    """Every way of at most deep steps: point 19, word for word."""
    told = [(start,) for start in sorted(set(starts)) if view.holds(start)]
    for way in told:
        if len(way) <= deep:
            told.extend(way + (parent,) for parent in view.book.thing(way[-1])[1] if view.holds(parent))
    return told


def naive_missing(view, starts, deep):
    near = [way for way in all_ways(view, starts, deep) if len(way) - 1 < deep]
    sought = set(starts).union(*[view.book.thing(way[-1])[1] for way in near])
    return tuple(sorted(version for version in sought if not view.holds(version)))


def are_ways(view, starts, deep, told):
    """Point 20, word for word, of tuples of ints."""
    due = all_ways(view, starts, deep)
    lasts = sorted({way[-1] for way in due})
    return ([way[-1] for way in told if way] == lasts and all(way in due for way in told)
            and not any(other[-1] == way[-1] and len(other) < len(way) for way in told for other in due))


class Reached(SevenVersions):
    def test_all_is_400(self):
        self.assertEqual(ALL, 400)

    def test_deep(self):
        for deep, told in [(0, (7,)), (1, (1, 6, 7)), (2, (1, 5, 6, 7)), (3, (1, 3, 4, 5, 6, 7)),
                           (4, (1, 2, 3, 4, 5, 6, 7)), (ALL, (1, 2, 3, 4, 5, 6, 7))]:
            self.assertEqual(reached(self.whole(), (7,), deep=deep), told)
            self.assertEqual(missing(self.whole(), (7,), deep=deep), ())
        self.assertEqual(reached(self.whole(), (7,)), (1, 2, 3, 4, 5, 6, 7))

    def test_starts_in_any_order_and_twice(self):
        for starts in [(3, 4), (4, 3), (3, 3, 4), (4, 3, 4, 3)]:
            self.assertEqual(reached(self.whole(), starts, deep=0), (3, 4))
            self.assertEqual(reached(self.whole(), starts), (1, 2, 3, 4))
            self.assertEqual(missing(self.view(3), starts, deep=1), (1, 2, 4))
            self.assertEqual(ways(self.whole(), starts, deep=0), ((3,), (4,)))

    def test_no_starts(self):
        for deep in DEEPS:
            self.assertEqual(reached(self.whole(), (), deep=deep), ())
            self.assertEqual(missing(self.whole(), (), deep=deep), ())
            self.assertEqual(ways(self.whole(), (), deep=deep), ())
            self.assertIs(right_ways(self.whole(), (), (), deep=deep), True)

    def test_starts_that_are_not_held(self):
        view = self.view(1, 2, 3, 4, 6)
        self.assertEqual(reached(view, (5, 7)), ())
        self.assertEqual(missing(view, (7, 5)), (5, 7))
        self.assertEqual(missing(view, (7, 5), deep=0), (5, 7))
        self.assertEqual(reached(view, (5, 4)), (2, 4))
        self.assertEqual(missing(view, (5, 4)), (5,))
        self.assertEqual(ways(view, (5, 4)), ((4, 2), (4,)))

    def test_parents_that_are_not_held(self):
        view = self.view(2, 3, 5, 7)
        self.assertEqual(reached(view, (5,)), (2, 3, 5))
        self.assertEqual(missing(view, (5,), deep=0), ())
        self.assertEqual(missing(view, (5,), deep=1), (4,))
        self.assertEqual(missing(view, (5,), deep=2), (1, 4))
        self.assertEqual(missing(view, (5,)), (1, 4))
        self.assertEqual(reached(view, (7,)), (7,))
        self.assertEqual(missing(view, (7,)), (1, 6))
        self.assertEqual(missing(view, (6, 7)), (1, 6))

    def test_a_near_way_counts_though_a_far_one_is_found_first(self):
        # From 7, the way to 1 by 6, 5 and 3 has four steps; the one by 7 itself has one.
        self.assertEqual(reached(self.whole(), (7,), deep=1), (1, 6, 7))
        book = grown([(), (1,), (2,), (3,), (2, 4)])
        self.assertEqual(reached(Holding(book, range(6)), (5,), deep=2), (1, 2, 3, 4, 5))
        self.assertEqual(missing(Holding(book, range(2, 6)), (5,), deep=2), (1,))

    def test_all_small_views(self):
        for many in range(8):
            for names in itertools.combinations(range(1, 8), many):
                view = self.view(*names)
                for starts in [(7,), (5, 4), (2,)]:
                    for deep in DEEPS:
                        due = tuple(sorted({way[-1] for way in all_ways(view, starts, deep)}))
                        self.assertEqual(reached(view, starts, deep=deep), due)
                        self.assertEqual(missing(view, starts, deep=deep), naive_missing(view, starts, deep))

    def test_random_views(self):
        dice = random.Random(19)
        for _ in range(80):
            view = random_view(dice, 12)
            starts = tuple(dice.choices(range(1, 13), k=dice.randrange(4)))
            for deep in DEEPS:
                due = tuple(sorted({way[-1] for way in all_ways(view, starts, deep)}))
                self.assertEqual(reached(view, starts, deep=deep), due)
                self.assertEqual(missing(view, starts, deep=deep), naive_missing(view, starts, deep))

    def test_rows_of_hundreds(self):
        book = rowed(399)
        view = Holding(book, range(400))
        self.assertEqual(reached(view, (399,)), tuple(range(1, 400)))
        self.assertEqual(reached(view, (399,), deep=200), tuple(range(199, 400)))
        cut = Holding(book, [name for name in range(400) if name != 100])
        self.assertEqual(reached(cut, (399,)), tuple(range(101, 400)))
        self.assertEqual(missing(cut, (399,)), (100,))
        self.assertEqual(missing(cut, (399,), deep=298), ())
        self.assertEqual(missing(cut, (399,), deep=299), (100,))

    def test_each_over_the_two_ahead_of_it(self):
        book = laddered(399)
        view = Holding(book, range(400))
        self.assertEqual(reached(view, (399,)), tuple(range(1, 400)))
        self.assertEqual(reached(view, (399,), deep=100), tuple(range(199, 400)))
        cut = Holding(book, [name for name in range(400) if name not in (100, 101)])
        self.assertEqual(missing(cut, (399,)), (100, 101))
        told = ways(view, (399,))
        self.assertEqual([len(way) for way in told], [1 + (399 - way[-1] + 1) // 2 for way in told])
        self.assertIs(right_ways(view, (399,), told), True)


class NoNames(SevenVersions):
    def assert_refused(self, starts, name):
        view = self.view(1, 2, 3)
        asks = [lambda: reached(view, starts), lambda: missing(view, starts), lambda: ways(view, starts),
                lambda: reached(view, starts, deep=0), lambda: missing(view, starts, deep=0)]
        asks += [lambda thing=thing: right_ways(view, starts, thing) for thing in [*odd_things(), (), ((1,),)]]
        for ask in asks:
            with self.assertRaises(NoName) as caught:
                ask()
            self.assertEqual(caught.exception.name, name)

    def test_the_first_name_of_no_version(self):
        for starts, name in [((8,), 8), ((-1,), -1), ((0,), 0), ((1, 99), 99), ((7, 0, 99), 0), ((99, 0), 99),
                             ((-5, 8), -5), ((3, 10 ** 59), 10 ** 59), ((1, 2, -2, -1), -2)]:
            self.assert_refused(starts, name)

    def test_leaves_and_trees(self):
        family = Family()
        view = Holding(family.book, range(8))
        for name in (family.leaf, family.empty, family.bare, family.tree):
            for ask in (reached, missing, ways):
                with self.assertRaises(NoName) as caught:
                    ask(view, (family.last, name, 99))
                self.assertEqual(caught.exception.name, name)


class Ways(SevenVersions):
    def assert_wrong(self, thing, view=None, starts=(7,), deep=ALL):
        view = self.whole() if view is None else view
        with self.subTest(str(thing)[:60]):
            self.assertIs(right_ways(view, starts, thing, deep=deep), False)

    def right(self):
        return ((7, 1), (7, 6, 5, 3, 2), (7, 6, 5, 3), (7, 6, 5, 4), (7, 6, 5), (7, 6), (7,))

    def put(self, at, way):
        return self.right()[:at] + (way,) + self.right()[at + 1:]

    def test_right_ones(self):
        self.assertIs(right_ways(self.whole(), (7,), self.right()), True)
        self.assertIs(right_ways(self.whole(), (7,), self.put(1, (7, 6, 5, 4, 2))), True)
        self.assertIs(right_ways(self.whole(), (7, 7), self.right(), deep=4), True)
        for first in [(7, 1), (3, 1)]:
            told = (first, (3, 2), (3,), (7, 6, 5, 4), (7, 6, 5), (7, 6), (7,))
            self.assertIs(right_ways(self.whole(), (3, 7), told), True)

    def test_one_way_to_each(self):
        right = self.right()
        for at in range(len(right)):
            self.assert_wrong(right[:at] + right[at + 1:])
            self.assert_wrong(right[:at + 1] + right[at:])
        self.assert_wrong(right[:2] + ((7, 6, 5, 4, 2),) + right[2:])
        self.assert_wrong(())

    def test_rising_by_their_last_versions(self):
        right = self.right()
        self.assert_wrong(right[::-1])
        self.assert_wrong((right[1], right[0]) + right[2:])

    def test_a_step_too_long(self):
        self.assert_wrong(self.put(0, (7, 6, 5, 3, 1)))
        book = grown([(), (1,), (1, 2)])
        view = Holding(book, range(4))
        self.assertIs(right_ways(view, (3,), ((3, 1), (3, 2), (3,))), True)
        self.assert_wrong(((3, 2, 1), (3, 2), (3,)), view, (3,))
        self.assertIs(right_ways(view, (3, 2), ((2, 1), (2,), (3,))), True)
        self.assert_wrong(((2, 1), (3, 2), (3,)), view, (3, 2))

    def test_a_start_has_a_way_without_a_step(self):
        self.assertIs(right_ways(self.whole(), (7, 5, 1), ((1,), (5, 3, 2), (5, 3), (5, 4), (5,), (7, 6), (7,))), True)
        self.assert_wrong(((7, 1), (5, 3, 2), (5, 3), (5, 4), (5,), (7, 6), (7,)), starts=(7, 5, 1))
        self.assert_wrong(((1,), (7, 6, 5, 3, 2), (7, 6, 5, 3), (7, 6, 5, 4), (7, 6, 5), (7, 6), (7,)), starts=(7, 5, 1))

    def test_by_a_parent_that_is_not_held(self):
        view = self.view(1, 2, 3, 5, 6, 7)
        right = ((7, 1), (7, 6, 5, 3, 2), (7, 6, 5, 3), (7, 6, 5), (7, 6), (7,))
        self.assertIs(right_ways(view, (7,), right), True)
        self.assert_wrong((right[0], (7, 6, 5, 4, 2), *right[2:]), view)
        self.assert_wrong(self.right(), view)

    def test_a_start_that_is_not_held_has_no_way(self):
        view = self.view(1, 2, 3, 4)
        self.assertIs(right_ways(view, (5, 4), ((4, 2), (4,))), True)
        self.assert_wrong(((4, 2), (4,), (5,)), view, (5, 4))
        self.assert_wrong(((5, 3, 1), (4, 2), (5, 3), (4,)), view, (5, 4))

    def test_a_step_to_no_parent(self):
        for at, way in [(1, (7, 2)), (1, (7, 6, 4, 2)), (2, (7, 6, 3)), (4, (7, 5)), (6, (7, 7)), (0, (7, 2, 1)),
                        (1, (7, 6, 5, 3, 4, 2)), (5, (7, 6, 6)), (1, (7, 1, 2))]:
            self.assert_wrong(self.put(at, way))

    def test_a_way_that_does_not_begin_with_a_start(self):
        for at, way in [(0, (1,)), (0, (3, 1)), (1, (3, 2)), (4, (5,)), (4, (6, 5)), (5, (6,)), (0, (0, 1))]:
            self.assert_wrong(self.put(at, way))

    def test_ways_without_versions(self):
        for at in range(7):
            self.assert_wrong(self.put(at, ()))
        self.assert_wrong(((),), starts=())

    def test_deep_one_less_and_one_more(self):
        for deep, many in [(0, 1), (1, 3), (2, 4), (3, 6), (4, 7)]:
            right = ways(self.whole(), (7,), deep=deep)
            self.assertEqual(len(right), many)
            self.assertIs(right_ways(self.whole(), (7,), right, deep=deep), True)
            if deep:
                self.assert_wrong(right, deep=deep - 1)
            if deep < 4:
                self.assert_wrong(right, deep=deep + 1)
            else:
                self.assertIs(right_ways(self.whole(), (7,), right, deep=deep + 1), True)

    def test_lists_for_tuples(self):
        self.assert_wrong(list(self.right()))
        for at, way in enumerate(self.right()):
            self.assert_wrong(self.put(at, list(way)))

    def test_a_truth_for_an_int(self):
        self.assert_wrong(self.put(0, (7, True)))
        self.assertIs(right_ways(self.whole(), (1,), ((1,),)), True)
        self.assert_wrong(((True,),), starts=(1,))

    def test_other_names(self):
        view = Holding(self.book, range(8))
        for name in (0, 8, -1, 10 ** 59):
            self.assert_wrong(self.put(0, (7, name)), view)
            self.assert_wrong(self.put(0, (name, 1)), view)
            self.assert_wrong(((name,), *self.right()), view)
            self.assert_wrong((*self.right(), (name,)), view)
        family = Family()
        view = Holding(family.book, range(8))
        first = (family.last, family.left, family.first)
        right = (first, (family.last, family.left), (family.last, family.right), (family.last,))
        self.assertIs(right_ways(view, (family.last,), right), True)
        for name in range(4):
            self.assert_wrong((first, (family.last, family.left), (family.last, name), (family.last,)), view,
                              (family.last,))
            self.assert_wrong(((name,), *right), view, (family.last,))

    def test_anything(self):
        for thing in odd_things():
            if thing != ():
                self.assert_wrong((*self.right(), thing))
            self.assert_wrong(thing)
            for at, way in enumerate(self.right()):
                for other in [thing, (thing,), (*way, thing), (thing, *way), way[:-1] + (thing,)]:
                    self.assert_wrong(self.put(at, other))

    def test_all_small_views(self):
        for many in range(8):
            for names in itertools.combinations(range(1, 8), many):
                view = self.view(*names)
                for starts in [(7,), (4, 5), (2,)]:
                    for deep in DEEPS:
                        told = ways(view, starts, deep=deep)
                        self.assertTrue(are_ways(view, starts, deep, told))
                        self.assertIs(right_ways(view, starts, told, deep=deep), True)
                        self.assertEqual(ways(view, starts[::-1], deep=deep), told)

    def test_every_way_in_place_of_another(self):
        for starts in [(7,), (5, 7), (1, 6)]:
            for deep in DEEPS:
                told = ways(self.whole(), starts, deep=deep)
                for way in all_ways(self.whole(), (1, 5, 6, 7), 4):
                    for at in range(len(told)):
                        other = told[:at] + (way,) + told[at + 1:]
                        self.assertIs(right_ways(self.whole(), starts, other, deep=deep),
                                      are_ways(self.whole(), starts, deep, other))

    def test_random_views(self):
        dice = random.Random(20)
        for _ in range(60):
            view = random_view(dice, 12)
            starts = tuple(dice.choices(range(1, 13), k=dice.randrange(4)))
            for deep in DEEPS:
                told = ways(view, starts, deep=deep)
                self.assertTrue(are_ways(view, starts, deep, told))
                self.assertIs(right_ways(view, starts, told, deep=deep), True)

    def test_rows_of_hundreds(self):
        view = Holding(rowed(399), range(400))
        told = ways(view, (399,))
        self.assertEqual(told, tuple(tuple(range(399, last - 1, -1)) for last in range(1, 400)))
        self.assertIs(right_ways(view, (399,), told), True)
        self.assertIs(right_ways(view, (399,), told, deep=398), True)
        self.assertIs(right_ways(view, (399,), told, deep=397), False)
        self.assertIs(right_ways(view, (399,), told[1:], deep=397), True)


if __name__ == "__main__":
    unittest.main()
