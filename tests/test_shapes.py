"""Points 8 and 9: shapes, those of views, and what is below a version."""

import random
import unittest

from samples import Family, grown, ladder, naive_below, odd_things, random_shape, shapes_of, strands

from fewasks.errors import NoShape
from fewasks.holding import Holding
from fewasks.shapes import below, check, shape


def many_links(many):
    """So many rising links among 400 versions."""
    links = sorted({(upper, lower) for upper in range(400) for lower in range(max(0, upper - 6), upper)})
    return tuple(links[:many])


class Check(unittest.TestCase):
    def assert_none(self, thing):
        with self.subTest(str(thing)[:60]):
            self.assertRaises(NoShape, check, thing)

    def test_shapes(self):
        for thing in [((), ()), ((0,), ()), ((7,), ()), ((0, 1), ((1, 0),)), ((2, 5, 9), ((5, 2), (9, 2), (9, 5))),
                      ((0, 10 ** 59), ((10 ** 59, 0),)), ladder(60), strands(400, 6)]:
            self.assertIs(check(thing), True)
        for thing in shapes_of(4):
            self.assertIs(check(thing), True)

    def test_at_most_400_versions(self):
        self.assertIs(check((tuple(range(400)), ())), True)
        self.assert_none((tuple(range(401)), ()))

    def test_at_most_2000_links(self):
        self.assertEqual(len(many_links(2001)), 2001)
        self.assertIs(check((tuple(range(400)), many_links(2000))), True)
        self.assert_none((tuple(range(400)), many_links(2001)))

    def test_versions_rise_from_0_on(self):
        for versions in [(1, 0), (0, 0), (0, 2, 1), (0, 1, 1), (-1,), (-1, 0), (-2, -1, 5)]:
            self.assert_none((versions, ()))

    def test_versions_are_ints(self):
        for version in [None, True, False, "0", "", (), (0,), [0], {}]:
            self.assert_none(((version,), ()))
            self.assert_none(((0, version), ()))
            self.assert_none(((version, 5), ()))
        self.assert_none(((0, True), ((1, 0),)))

    def test_links_rise(self):
        for links in [((2, 0), (1, 0)), ((2, 1), (2, 0)), ((1, 0), (1, 0)), ((1, 0), (2, 1), (2, 1))]:
            self.assert_none(((0, 1, 2), links))

    def test_links_are_among_the_versions(self):
        for link in [(3, 0), (2, 1), (9, 8), (4, -2), (0, -1), (10 ** 59, 0)]:
            self.assert_none(((0, 2, 4), (link,)))
            self.assert_none(((0, 2, 4), tuple(sorted([(2, 0), link]))))

    def test_links_lead_down(self):
        for link in [(0, 0), (2, 2), (0, 2), (2, 4)]:
            self.assert_none(((0, 2, 4), (link,)))

    def test_links_are_pairs_of_ints(self):
        for link in [(2,), (2, 0, 0), (), 2, None, "20", [2, 0], {2: 0}, (2, None), (None, 0), ("2", "0"), (2, False),
                     (True, 0), ((2,), (0,)), ([2], 0), (2, {}), True]:
            self.assert_none(((0, 1, 2), (link,)))
            self.assert_none(((0, 1, 2), ((1, 0), link)))

    def test_only_tuples(self):
        for thing in [[(0, 1), ((1, 0),)], ([0, 1], ((1, 0),)), ((0, 1), [(1, 0)]), ((0, 1), ([1, 0],)), ((), []),
                      ([], ()), ((0,), {}), ({}, ()), ((0,), None), (None, ()), ((0,),), ((0,), (), ()), (0, ()),
                      ((0,), 0), ("", ""), ("", ()), ((), "")]:
            self.assert_none(thing)

    def test_anything(self):
        for thing in odd_things():
            self.assert_none(thing)
            self.assert_none((thing, thing, thing))
            if thing not in ((), (1, 2, 3)):
                self.assert_none((thing, ()))
            if thing != ():
                self.assert_none(((0, 1, 2), thing))
            self.assert_none(((0, 1, 2), (thing,)))
            self.assert_none(((0, 1, 2), ((thing, 0),)))
            self.assert_none(((0, 1, 2), ((2, thing),)))


class OfViews(unittest.TestCase):
    def setUp(self):
        self.family = Family()
        self.first, self.left = self.family.first, self.family.left
        self.right, self.last = self.family.right, self.family.last

    def view(self, *names):
        return Holding(self.family.book, names)

    def test_all_held_and_nothing_told(self):
        view = self.view(*range(len(self.family.book)))
        self.assertEqual(shape(view, ()), (
            (self.first, self.left, self.right, self.last),
            ((self.left, self.first), (self.right, self.first), (self.last, self.left), (self.last, self.right)),
        ))

    def test_without_versions(self):
        self.assertEqual(shape(self.view(), ()), ((), ()))
        self.assertEqual(shape(self.view(self.family.leaf, self.family.tree), (3, 9)), ((), ()))

    def test_told_edges_have_no_links(self):
        view = self.view(self.first, self.left, self.right, self.last)
        self.assertEqual(shape(view, (self.left,))[1],
                         ((self.right, self.first), (self.last, self.left), (self.last, self.right)))
        self.assertEqual(shape(view, (self.last, self.left))[1], ((self.right, self.first),))
        self.assertEqual(shape(view, (self.first,)), shape(view, ()))
        for edges in [(), (self.left,), (self.last, self.right)]:
            self.assertEqual(shape(view, edges)[0], (self.first, self.left, self.right, self.last))

    def test_told_edges_that_the_view_does_not_hold(self):
        view = self.view(self.first, self.left)
        for edges in [(self.right,), (self.last, self.family.leaf), (-1, 99, 10 ** 59)]:
            self.assertEqual(shape(view, edges), shape(view, ()))

    def test_a_told_edge_may_be_a_held_leaf(self):
        self.assertEqual(shape(self.view(self.first, self.left, 0), (0,)), shape(self.view(self.first, self.left), ()))

    def test_edges_of_the_view_itself_keep_their_held_parents(self):
        view = self.view(self.left, self.last)
        self.assertEqual(view.edges(), [self.left, self.last])
        self.assertEqual(shape(view, ()), ((self.left, self.last), ((self.last, self.left),)))
        self.assertEqual(shape(view, (self.last,)), ((self.left, self.last), ()))

    def test_four_parents(self):
        book = grown([(), (), (), (), (1, 2, 3, 4)])
        self.assertEqual(shape(Holding(book, (5, 4, 3, 2, 1, 0)), ())[1], ((5, 1), (5, 2), (5, 3), (5, 4)))
        self.assertEqual(shape(Holding(book, (5, 4, 2)), ()), ((2, 4, 5), ((5, 2), (5, 4))))

    def test_what_is_told_is_a_shape(self):
        dice = random.Random(9)
        for _ in range(30):
            parents = [tuple(sorted(dice.sample(range(1, k + 1), dice.randrange(min(k, 4) + 1)))) for k in range(40)]
            book = grown(parents)
            view = Holding(book, dice.sample(range(41), 30))
            edges = tuple(dice.sample(range(41), 5))
            told = shape(view, edges)
            self.assertIs(check(told), True)
            self.assertEqual(told[0], tuple(view.versions()))
            for upper in view.versions():
                for lower in range(41):
                    due = upper not in edges and lower in parents[upper - 1] and view.holds(lower)
                    self.assertEqual((upper, lower) in told[1], due)


class Below(unittest.TestCase):
    def test_without_links(self):
        self.assertEqual(below(((3, 5), ()), 3), [3])
        self.assertEqual(below(((3, 5), ((5, 3),)), 3), [3])

    def test_itself_and_all_below(self):
        known = ((1, 4, 6, 7, 9), ((4, 1), (6, 1), (7, 4), (7, 6)))
        for version, told in [(1, [1]), (4, [1, 4]), (6, [1, 6]), (7, [1, 4, 6, 7]), (9, [9])]:
            self.assertEqual(below(known, version), told)

    def test_a_new_list_each_time(self):
        known = ((1, 4), ((4, 1),))
        told = below(known, 4)
        self.assertIsInstance(told, list)
        told.append(99)
        self.assertEqual(below(known, 4), [1, 4])

    def test_long_chains(self):
        known = strands(400, 1)
        for version in (0, 1, 200, 399):
            self.assertEqual(below(known, version), list(range(version + 1)))

    def test_rows_too_many_to_go_through(self):
        self.assertEqual(below(ladder(400), 399), list(range(400)))
        full = (tuple(range(60)), tuple((upper, lower) for upper in range(60) for lower in range(upper)))
        self.assertIs(check(full), True)
        self.assertEqual(below(full, 59), list(range(60)))

    def test_every_small_shape(self):
        for known in shapes_of(4):
            for version in range(4):
                self.assertEqual(below(known, version), sorted({version} | naive_below(known, version)))

    def test_random_shapes(self):
        dice = random.Random(3)
        for _ in range(40):
            known = random_shape(dice, dice.randrange(1, 40), dice.randrange(80), dice.choice([2, 5, 40]))
            for version in known[0]:
                self.assertEqual(below(known, version), sorted({version} | naive_below(known, version)))

    def test_no_version_of_the_shape(self):
        for known, version in [(((), ()), 0), (((1, 3), ((3, 1),)), 2), (((1, 3), ((3, 1),)), -1), (((0,), ()), 10 ** 59)]:
            self.assertRaises(NoShape, below, known, version)


if __name__ == "__main__":
    unittest.main()
