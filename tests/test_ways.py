"""Point 32: way papers of two versions."""

import itertools
import unittest

from samples import Family, SevenVersions, grown, laddered, odd_things, rowed

from fewasks.holding import Holding
from fewasks.ways import right_way, way


def is_way_paper(view, old, new, thing):
    """Point 32, word for word, of a paper whose tuples are of ints."""
    book = view.book
    if not all(view.holds(name) and book.kind(name) == "version" for name in thing[1]):
        return False
    if thing[0] == "ahead":
        steps = zip(thing[1], thing[1][1:])
        return (len(thing[1]) > 0 and thing[1][0] == new and thing[1][-1] == old
                and all(lower in book.thing(upper)[1] for upper, lower in steps))
    word, versions, edges = thing
    if list(versions) != sorted(set(versions)) or new not in versions or old in versions:
        return False
    if any(view.holds(parent) and parent not in versions for name in versions for parent in book.thing(name)[1]):
        return False
    due = [name for name in versions if not all(view.holds(parent) for parent in book.thing(name)[1])]
    return list(edges) == due


def reachable(view, new):
    """All versions to which walks by held parents lead, with new itself."""
    found = {new}
    while True:
        more = {parent for name in found for parent in view.book.thing(name)[1] if view.holds(parent)}
        if more <= found:
            return found
        found |= more


def subsets(things):
    return [some for many in range(len(things) + 1) for some in itertools.combinations(things, many)]


class Case(SevenVersions):
    def assert_way(self, view, old, new):
        told = way(view, old, new)
        self.assertTrue(is_way_paper(view, old, new, told), (old, new, told))
        self.assertIs(right_way(view, old, new, told), True)
        self.assertEqual(way(view, old, new), told)
        due = reachable(view, new)
        self.assertEqual(told[0], "ahead" if old in due else "apart")
        if told[0] == "apart":
            self.assertEqual(told[1], tuple(sorted(due)))
        return told


class Way(Case):
    def test_the_same_version_twice(self):
        for version in range(1, 8):
            self.assertEqual(way(self.whole(), version, version), ("ahead", (version,)))
            self.assertEqual(way(self.view(version), version, version), ("ahead", (version,)))

    def test_ahead_by_one_and_more_steps(self):
        self.assertEqual(way(self.whole(), 6, 7), ("ahead", (7, 6)))
        self.assertEqual(way(self.whole(), 5, 7), ("ahead", (7, 6, 5)))
        self.assertEqual(way(self.whole(), 1, 7), ("ahead", (7, 1)))
        self.assertEqual(way(self.whole(), 4, 7), ("ahead", (7, 6, 5, 4)))
        self.assertIn(way(self.whole(), 2, 6), [("ahead", (6, 5, 3, 2)), ("ahead", (6, 5, 4, 2))])

    def test_apart_without_edges(self):
        self.assertEqual(way(self.whole(), 7, 6), ("apart", (1, 2, 3, 4, 5, 6), ()))
        self.assertEqual(way(self.whole(), 3, 4), ("apart", (2, 4), ()))
        self.assertEqual(way(self.whole(), 4, 3), ("apart", (1, 2, 3), ()))
        self.assertEqual(way(self.whole(), 2, 1), ("apart", (1,), ()))

    def test_apart_with_edges(self):
        self.assertEqual(way(self.view(2, 3, 5, 7), 2, 7), ("apart", (7,), (7,)))
        self.assertEqual(way(self.view(2, 3, 5, 7), 7, 5), ("apart", (2, 3, 5), (3, 5)))
        self.assertEqual(way(self.view(1, 5, 6, 7), 1, 6), ("apart", (5, 6), (5,)))
        # In the whole book 2 is below 4, but here nothing between them is held.
        self.assertEqual(way(self.view(2, 6), 2, 6), ("apart", (6,), (6,)))

    def test_kinds_of_values(self):
        for told in [way(self.whole(), 6, 7), way(self.view(2, 3, 5, 7), 7, 5)]:
            self.assertTrue(all(isinstance(part, tuple) for part in told[1:]))
            self.assertIsInstance(told, tuple)

    def test_all_small_views(self):
        for names in subsets(range(1, 8)):
            view = self.view(*names)
            for old, new in itertools.product(names, repeat=2):
                self.assert_way(view, old, new)

    def test_rows_of_hundreds(self):
        book = rowed(399)
        view = Holding(book, range(400))
        self.assertEqual(self.assert_way(view, 1, 399), ("ahead", tuple(range(399, 0, -1))))
        self.assertEqual(self.assert_way(view, 399, 1), ("apart", (1,), ()))
        self.assertEqual(self.assert_way(view, 399, 398), ("apart", tuple(range(1, 399)), ()))
        cut = Holding(book, [name for name in range(400) if name != 200])
        self.assertEqual(self.assert_way(cut, 1, 399), ("apart", tuple(range(201, 400)), (201,)))
        self.assertEqual(self.assert_way(cut, 201, 399), ("ahead", tuple(range(399, 200, -1))))

    def test_each_over_the_two_ahead_of_it(self):
        book = laddered(399)
        view = Holding(book, range(400))
        self.assertEqual(self.assert_way(view, 1, 399)[0], "ahead")
        self.assertEqual(self.assert_way(view, 399, 398), ("apart", tuple(range(1, 399)), ()))
        one = Holding(book, [name for name in range(400) if name != 200])
        self.assertEqual(self.assert_way(one, 1, 399)[0], "ahead")
        two = Holding(book, [name for name in range(400) if name not in (200, 201)])
        self.assertEqual(self.assert_way(two, 1, 399), ("apart", tuple(range(202, 400)), (202, 203)))


class RightWay(Case):
    def assert_wrong(self, thing, old=2, new=7, view=None):
        view = self.whole() if view is None else view
        with self.subTest(str(thing)[:70]):
            self.assertIs(right_way(view, old, new, thing), False)

    def test_any_walk_ahead(self):
        for walk in [(7, 6, 5, 3, 2), (7, 6, 5, 4, 2)]:
            self.assertIs(right_way(self.whole(), 2, 7, ("ahead", walk)), True)
        for walk in [(7, 1), (7, 6, 5, 3, 1)]:
            self.assertIs(right_way(self.whole(), 1, 7, ("ahead", walk)), True)

    def test_more_versions_apart(self):
        view = self.view(1, 2, 3, 4)
        for versions, due in [((2, 4), True), ((1, 2, 4), True), ((4,), False), ((1, 4), False), ((2,), False),
                              ((1, 2), False), ((1, 2, 3, 4), False), ((2, 3, 4), False)]:
            self.assertIs(right_way(view, 3, 4, ("apart", versions, ())), due)

    def test_every_paper_of_small_views(self):
        book = grown([(), (1,), (1,), (2, 3)])
        walks = [walk for many in range(1, 5) for walk in itertools.product(range(1, 5), repeat=many)]
        sets = subsets(range(1, 5))
        for names in sets:
            view = Holding(book, names)
            papers = [("ahead", walk) for walk in [(), *walks]]
            papers += [("apart", versions, edges) for versions in sets for edges in subsets(versions)]
            for old, new in itertools.product(names, repeat=2):
                sorts = set()
                for thing in papers:
                    due = is_way_paper(view, old, new, thing)
                    self.assertIs(right_way(view, old, new, thing), due)
                    if due:
                        sorts.add(thing[0])
                self.assertEqual(len(sorts), 1)

    def test_ahead_from_or_to_another(self):
        for walk in [(6, 5, 3, 2), (7, 6, 5, 3), (7, 6, 5, 3, 1), (7,), (2,), (2, 3, 5, 6, 7)]:
            self.assert_wrong(("ahead", walk))

    def test_ahead_by_a_step_to_no_parent(self):
        for walk in [(7, 2), (7, 6, 2), (7, 5, 3, 2), (7, 6, 5, 3, 3, 2), (7, 7, 6, 5, 3, 2), (7, 1, 2), (7, 6, 5, 3, 4, 2)]:
            self.assert_wrong(("ahead", walk))

    def test_ahead_by_a_version_that_is_not_held(self):
        view = self.view(1, 2, 3, 5, 6, 7)
        self.assertIs(right_way(view, 2, 7, ("ahead", (7, 6, 5, 3, 2))), True)
        self.assert_wrong(("ahead", (7, 6, 5, 4, 2)), view=view)
        cut = self.view(1, 2, 3, 4, 5, 7)
        self.assert_wrong(("ahead", (7, 6, 5, 3, 2)), view=cut)
        self.assertIs(right_way(cut, 2, 7, ("apart", (1, 7), (7,))), True)

    def test_ahead_without_versions(self):
        self.assert_wrong(("ahead", ()))
        self.assert_wrong(("ahead", ()), 7, 7)
        self.assertIs(right_way(self.whole(), 7, 7, ("ahead", (7,))), True)

    def test_apart_of_the_same_or_of_one_ahead(self):
        self.assert_wrong(("apart", (1, 2, 3, 4, 5, 6, 7), ()), 7, 7)
        self.assert_wrong(("apart", (1, 2, 3, 4, 5, 6, 7), ()))
        self.assert_wrong(("apart", (1, 3, 4, 5, 6, 7), ()))
        self.assert_wrong(("apart", (), ()), 7, 7)

    def test_apart_without_new_or_with_old(self):
        view = self.view(1, 2, 3, 4, 5)
        self.assertIs(right_way(view, 4, 3, ("apart", (1, 2, 3), ())), True)
        for versions in [(), (1, 2), (1,), (1, 2, 3, 4), (2, 4), (3,), (1, 3), (2, 3), (1, 2, 3, 4, 5)]:
            self.assert_wrong(("apart", versions, ()), 4, 3, view)

    def test_apart_out_of_order_or_twice(self):
        for versions in [(3, 2, 1), (1, 3, 2), (1, 2, 3, 3), (1, 1, 2, 3)]:
            self.assert_wrong(("apart", versions, ()), 4, 3)
        view = self.view(2, 3, 5, 7)
        self.assertIs(right_way(view, 7, 5, ("apart", (2, 3, 5), (3, 5))), True)
        for edges in [(5, 3), (3, 3, 5), (3, 5, 5)]:
            self.assert_wrong(("apart", (2, 3, 5), edges), 7, 5, view)

    def test_apart_with_one_that_is_not_held_or_no_version(self):
        view = self.view(0, 2, 3, 5, 7)
        for versions in [(1, 2, 3, 5), (2, 3, 4, 5), (2, 3, 5, 8), (-1, 2, 3, 5), (0, 2, 3, 5), (2, 3, 5, 10 ** 59)]:
            self.assert_wrong(("apart", versions, (3, 5)), 7, 5, view)
        family = Family()
        view = Holding(family.book, range(8))
        right = ("apart", (family.first, family.left), ())
        self.assertIs(right_way(view, family.right, family.left, right), True)
        for name in range(4):
            self.assert_wrong(("apart", (name, *right[1]), ()), family.right, family.left, view)

    def test_other_edges(self):
        view = self.view(2, 3, 5, 7)
        for edges in [(), (3,), (5,), (2, 3, 5), (3, 5, 7), (2,), (1, 4), (3, 4, 5), (-1, 3, 5)]:
            self.assert_wrong(("apart", (2, 3, 5), edges), 7, 5, view)
        for edges in [(1,), (3,), (1, 2, 3)]:
            self.assert_wrong(("apart", (1, 2, 3), edges), 4, 3)

    def test_words_and_lengths(self):
        view = self.view(2, 3, 5, 7)
        apart, ahead = ("apart", (2, 3, 5), (3, 5)), ("ahead", (7, 6, 5))
        for word in ["", "Ahead", "ahead ", "apart", None, True, ("ahead",)]:
            self.assert_wrong((word, *ahead[1:]), 5, 7)
        for word in ["", "Apart", "ahead", None, 0, ("apart",)]:
            self.assert_wrong((word, *apart[1:]), 7, 5, view)
        for thing in [(), ahead[:1], ahead + ((),), ahead[1:], ahead[1], ahead + ahead, ahead[::-1]]:
            self.assert_wrong(thing, 5, 7)
        for thing in [apart[:1], apart[:2], apart + ((),), apart[1:], apart[1], (apart[0], apart[2], apart[1])]:
            self.assert_wrong(thing, 7, 5, view)

    def test_lists_for_tuples(self):
        view = self.view(2, 3, 5, 7)
        for thing in [["ahead", (7, 6, 5)], ("ahead", [7, 6, 5])]:
            self.assert_wrong(thing, 5, 7)
        for thing in [["apart", (2, 3, 5), (3, 5)], ("apart", [2, 3, 5], (3, 5)), ("apart", (2, 3, 5), [3, 5])]:
            self.assert_wrong(thing, 7, 5, view)
        self.assert_wrong(("apart", (1, 2, 3), []), 4, 3)

    def test_truths_for_ints(self):
        self.assertIs(right_way(self.whole(), 1, 1, ("ahead", (1,))), True)
        self.assert_wrong(("ahead", (True,)), 1, 1)
        self.assert_wrong(("ahead", (7, True)), 1, 7)
        self.assert_wrong(("apart", (True, 2, 3), ()), 4, 3)
        self.assertIs(right_way(self.view(1, 3), 3, 1, ("apart", (1,), ())), True)
        self.assert_wrong(("apart", (True,), ()), 3, 1, self.view(1, 3))
        # An edge is never named 0 or 1: ahead of it come a tree and its parent.

    def test_anything(self):
        view = self.view(2, 3, 5, 7)
        for thing in odd_things():
            for paper in [thing, ("ahead", thing), (thing, (7, 6, 5)), ("ahead", (7, 6, 5), thing), ("ahead", (7, thing, 5)),
                          ("ahead", (thing, 6, 5)), ("ahead", (7, 6, thing)), ("ahead", (7, 6, 5, thing))]:
                self.assert_wrong(paper, 5, 7)
            for paper in [("apart", thing, (3, 5)), ("apart", (2, 3, 5), thing), (thing, (2, 3, 5), (3, 5)),
                          ("apart", thing, thing), ("apart", (2, 3, thing), (3, 5)), ("apart", (2, 3, 5), (3, thing)),
                          ("apart", (2, 3, 5, thing), (3, 5)), ("apart", (2, 3, 5), (3, 5, thing)),
                          ("apart", (2, 3, 5), (3, 5), thing)]:
                self.assert_wrong(paper, 7, 5, view)


if __name__ == "__main__":
    unittest.main()
