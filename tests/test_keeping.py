"""Point 37: what is kept, and keeping papers."""

import itertools
import random
import unittest

from samples import laddered, odd_things, random_book, rowed, towered

from fewasks.book import Book
from fewasks.holding import Holding
from fewasks.keeping import keeping, right_kept
from fewasks.reach import ALL

DEEPS = (0, 1, 2, 3, ALL)


def least_steps(view, roots, deep):
    """Point 37, word for word: each held name to which a walk leads, with the least steps to parents on one."""
    book, found = view.book, {root: 0 for root in roots}
    while True:
        more = dict(found)
        for name, steps in found.items():
            for part in book.parts(name):
                due = steps + (book.kind(part) == "version")
                if view.holds(part) and due <= deep:
                    more[part] = min(due, more.get(part, due))
        if more == found:
            return found
        found = more


def is_keeping(view, roots, deep, thing):
    """Whether triples of ints are a keeping paper: just what is kept, the least steps, and a right above."""
    due, book = least_steps(view, roots, deep), view.book
    if [(name, steps) for name, steps, above in thing] != sorted(due.items()):
        return False
    for name, steps, above in thing:
        if (name in roots) != (above is None):
            return False
        if above is not None:
            if above not in due or name not in book.parts(above):
                return False
            if due[above] + (book.kind(name) == "version") != steps:
                return False
    return True


class Grown:
    """Leaves x and y; small has a: x; big has a: small, b: y; versions one to five.

    one has the root small; two and three are over one; four is over two and three, five over three and four.
    two and five have the root small, three and four the root big.
    """

    def __init__(self):
        self.book = Book()
        self.x, self.y = [self.book.named(("leaf", (text,))) for text in "xy"]
        self.small = self.book.named(("tree", (("a", self.x),)))
        self.big = self.book.named(("tree", (("a", self.small), ("b", self.y))))
        self.one = self.version((), self.small)
        self.two = self.version((self.one,), self.small)
        self.three = self.version((self.one,), self.big)
        self.four = self.version((self.two, self.three), self.big)
        self.five = self.version((self.three, self.four), self.small)

    def version(self, parents, root):
        return self.book.named(("version", parents, root, len(self.book)))

    def without(self, *names):
        return Holding(self.book, [name for name in range(len(self.book)) if name not in names])


class Case(unittest.TestCase):
    def setUp(self):
        self.grown = Grown()
        self.whole = self.grown.without()

    def assert_kept(self, view, roots, deep):
        told = keeping(view, roots, deep=deep)
        self.assertTrue(is_keeping(view, roots, deep, told), (roots, deep, told))
        self.assertIs(right_kept(view, roots, told, deep=deep), True)
        self.assertEqual(keeping(view, roots, deep=deep), told)
        self.assertTrue(isinstance(told, tuple) and all(isinstance(triple, tuple) for triple in told))
        return told


class Keeping(Case):
    def names(self, view, roots, deep):
        return [name for name, steps, above in self.assert_kept(view, roots, deep)]

    def test_no_roots(self):
        for deep in DEEPS:
            self.assertEqual(self.assert_kept(self.whole, (), deep), ())

    def test_a_leaf_and_a_tree(self):
        g = self.grown
        for deep in DEEPS:
            self.assertEqual(self.assert_kept(self.whole, (g.x,), deep), ((g.x, 0, None),))
            self.assertEqual(self.assert_kept(self.whole, (g.small,), deep), ((g.x, 0, g.small), (g.small, 0, None)))

    def test_steps_to_roots_and_entries_are_not_counted(self):
        g = self.grown
        self.assertEqual(self.names(self.whole, (g.three,), 0), [g.x, g.y, g.small, g.big, g.three])

    def test_deep(self):
        g = self.grown
        self.assertEqual(self.names(self.whole, (g.five,), 0), [g.x, g.small, g.five])
        self.assertEqual(self.names(self.whole, (g.five,), 1), [g.x, g.y, g.small, g.big, g.three, g.four, g.five])
        self.assertEqual(self.names(self.whole, (g.five,), 2), list(range(9)))
        steps = {name: many for name, many, above in self.assert_kept(self.whole, (g.five,), ALL)}
        self.assertEqual(steps, {g.x: 0, g.y: 1, g.small: 0, g.big: 1, g.one: 2, g.two: 2, g.three: 1, g.four: 1,
                                 g.five: 0})

    def test_left_out_deep_is_all(self):
        roots = (self.grown.five,)
        self.assertEqual(keeping(self.whole, roots), keeping(self.whole, roots, deep=ALL))
        self.assertIs(right_kept(self.whole, roots, keeping(self.whole, roots)), True)
        self.assertIs(right_kept(self.whole, roots, keeping(self.whole, roots, deep=1)), False)

    def test_a_root_that_others_lead_to_has_no_above(self):
        g = self.grown
        told = self.assert_kept(self.whole, (g.x, g.one, g.three, g.five), ALL)
        roots = [triple for triple in told if triple[2] is None]
        self.assertEqual(roots, [(g.x, 0, None), (g.one, 0, None), (g.three, 0, None), (g.five, 0, None)])

    def test_parts_that_are_not_held(self):
        g = self.grown
        self.assertEqual(self.names(g.without(g.small), (g.five,), ALL), [g.y, g.big, 4, 5, 6, 7, 8])
        self.assertEqual(self.names(g.without(g.three), (g.five,), 2), [g.x, g.y, g.small, g.big, g.two, g.four, g.five])
        self.assertEqual(self.names(g.without(g.three, g.four), (g.five,), ALL), [g.x, g.small, g.five])
        # With three gone, one is three steps from five, by four and two.
        self.assertEqual(self.names(g.without(g.three), (g.five,), 3), [0, 1, 2, 3, 4, 5, 7, 8])

    def test_all_views_and_roots(self):
        g = self.grown
        names = range(len(g.book))
        for gone in itertools.chain.from_iterable(itertools.combinations(names, many) for many in range(4)):
            view = g.without(*gone)
            for roots in itertools.combinations(view.names(), 2):
                for deep in (0, 1, 2):
                    self.assert_kept(view, roots, deep)

    def test_random_views(self):
        dice = random.Random(37)
        for _ in range(300):
            book = random_book(dice)
            view = Holding(book, [name for name in range(len(book)) if dice.random() < 0.85])
            names = view.names()
            roots = tuple(sorted(dice.sample(names, min(len(names), dice.randrange(4)))))
            for deep in DEEPS:
                self.assert_kept(view, roots, deep)

    def test_a_line_of_hundreds(self):
        book = rowed(399)
        view = Holding(book, range(400))
        told = self.assert_kept(view, (399,), ALL)
        self.assertEqual(told[1:], tuple((name, 399 - name, name + 1 if name < 399 else None) for name in range(1, 400)))
        self.assertEqual(told[0], (0, 0, 399))
        self.assertEqual(len(self.assert_kept(view, (399,), 397)), 399)
        self.assertEqual(len(self.assert_kept(view, (200, 399), 100)), 1 + 101 + 101)

    def test_each_over_the_two_ahead_of_it(self):
        view = Holding(laddered(399), range(400))
        told = self.assert_kept(view, (399,), ALL)
        self.assertEqual([steps for name, steps, above in told[1:]], [(400 - name) // 2 for name in range(1, 400)])
        self.assertEqual(len(self.assert_kept(view, (399,), 100)), 1 + 201)

    def test_towers_of_trees(self):
        book = towered()
        view = Holding(book, range(len(book)))
        told = self.assert_kept(view, (len(book) - 1,), 0)
        self.assertEqual(told, tuple((name, 0, name + 1 if name < 9 else None) for name in range(10)))


class RightKept(Case):
    def setUp(self):
        Case.setUp(self)
        g = self.grown
        self.roots = (g.four,)
        self.right = ((g.x, 0, g.small), (g.y, 0, g.big), (g.small, 0, g.big), (g.big, 0, g.four), (g.one, 2, g.two),
                      (g.two, 1, g.four), (g.three, 1, g.four), (g.four, 0, None))

    def assert_wrong(self, thing, roots=None, deep=ALL, view=None):
        with self.subTest(str(thing)[:70]):
            told = right_kept(view or self.whole, self.roots if roots is None else roots, thing, deep=deep)
            self.assertIs(told, False)

    def changed(self, name, triple):
        return tuple(triple if old[0] == name else old for old in self.right)

    def test_right(self):
        self.assertIs(right_kept(self.whole, self.roots, self.right), True)
        self.assertIs(right_kept(self.whole, self.roots, self.right, deep=2), True)
        self.assertIs(right_kept(self.whole, (), ()), True)

    def test_another_above_that_is_right(self):
        g = self.grown
        self.assertIs(right_kept(self.whole, self.roots, self.changed(g.one, (g.one, 2, g.three))), True)
        # small is an entry of big, which has no steps; as the root of two it would have one.
        self.assert_wrong(self.changed(g.small, (g.small, 0, g.two)))
        self.assert_wrong(self.changed(g.small, (g.small, 1, g.two)))

    def test_another_above_that_is_wrong(self):
        g = self.grown
        for above in (g.x, g.y, g.small, g.big, g.one, g.four, g.five, 99, -1):
            self.assert_wrong(self.changed(g.one, (g.one, 2, above)))
        for above in (g.x, g.one, g.two, g.three, g.five):
            self.assert_wrong(self.changed(g.y, (g.y, 0, above)))
        for above in (g.five, g.three, g.big, g.x):
            self.assert_wrong(self.changed(g.four, (g.four, 0, above)))

    def test_none_where_there_is_an_above(self):
        for name, steps, above in self.right[:-1]:
            self.assert_wrong(self.changed(name, (name, steps, None)))
            self.assert_wrong(self.changed(name, (name, 0, None)))

    def test_an_above_of_a_root(self):
        g = self.grown
        roots = (g.three, g.four)
        told = keeping(self.whole, roots)
        self.assertIs(right_kept(self.whole, roots, told), True)
        for above in (g.four, g.five):
            for steps in (0, 1):
                wrong = tuple((g.three, steps, above) if triple[0] == g.three else triple for triple in told)
                self.assert_wrong(wrong, roots)

    def test_other_steps(self):
        for name, steps, above in self.right:
            for other in (steps - 1, steps + 1, steps + 10, -1):
                if other != steps:
                    self.assert_wrong(self.changed(name, (name, other, above)))

    def test_steps_that_are_more_than_needed_all_over(self):
        g = self.grown
        # two, and with it one, by way of four; but five, a root, is nearer to three, and so to one.
        roots = (g.five,)
        told = keeping(self.whole, roots)
        steps = {name: many for name, many, above in told}
        self.assertEqual(steps[g.one], 2)
        wrong = tuple((g.one, 3, g.two) if triple[0] == g.one else triple for triple in told)
        self.assertEqual(steps[g.two], 2)
        self.assert_wrong(wrong, roots)
        trees = tuple((g.small, 1, g.big) if triple[0] == g.small else triple for triple in told)
        self.assert_wrong(trees, roots)

    def test_a_name_less(self):
        for left in range(len(self.right)):
            self.assert_wrong(self.right[:left] + self.right[left + 1:])
        for deep in DEEPS:
            self.assert_wrong((), deep=deep)
        g = self.grown
        self.assert_wrong(((g.x, 0, None),), (g.x, g.y))

    def test_a_name_more(self):
        g = self.grown
        for steps, above in itertools.product((0, 1, -1), (None, g.four, g.five)):
            self.assert_wrong(self.right + ((g.five, steps, above),))
        short = keeping(self.whole, self.roots, deep=1)
        self.assertIs(right_kept(self.whole, self.roots, short, deep=1), True)
        self.assert_wrong(self.right, deep=1)
        self.assert_wrong(self.right, deep=0)

    def test_steps_more_than_deep(self):
        book = rowed(5)
        view = Holding(book, range(6))
        for deep in range(4):
            told = keeping(view, (5,), deep=deep + 1)
            self.assertIs(right_kept(view, (5,), told, deep=deep + 1), True)
            self.assert_wrong(told, (5,), deep, view)
            self.assert_wrong(keeping(view, (5,), deep=deep), (5,), deep + 1, view)

    def test_twice_and_out_of_order(self):
        for at in range(len(self.right)):
            self.assert_wrong(self.right[:at] + (self.right[at],) + self.right[at:])
        for at in range(len(self.right) - 1):
            self.assert_wrong(self.right[:at] + (self.right[at + 1], self.right[at]) + self.right[at + 2:])
        self.assert_wrong(self.right[::-1])

    def test_names_that_are_not_held(self):
        g = self.grown
        view = g.without(g.one)
        self.assert_wrong(self.right, view=view)
        self.assertIs(right_kept(view, self.roots, tuple(t for t in self.right if t[0] != g.one)), True)
        for name in (-1, 9, 99, 10 ** 59):
            self.assert_wrong(tuple(sorted(self.right + ((name, 0, g.four),))))

    def test_every_paper_of_a_small_view(self):
        book = rowed(3)
        view = Holding(book, range(4))
        triples = [[(name, steps, above) for steps in range(4) for above in [None, *range(4)]] for name in range(4)]
        for deep in (0, 1, ALL):
            due = keeping(view, (2,), deep=deep)
            rights = []
            for some in itertools.product([None, *triples[0]], [None, *triples[1]], [None, *triples[2]]):
                thing = tuple(triple for triple in some if triple is not None)
                if right_kept(view, (2,), thing, deep=deep):
                    rights.append(thing)
            self.assertEqual(rights, [due])

    def test_lists_for_tuples(self):
        self.assert_wrong(list(self.right))
        self.assert_wrong([])
        self.assert_wrong([], ())
        for at, triple in enumerate(self.right):
            self.assert_wrong(self.right[:at] + (list(triple),) + self.right[at + 1:])
            self.assert_wrong(self.right[:at] + (triple[:2],) + self.right[at + 1:])
            self.assert_wrong(self.right[:at] + (triple + (0,),) + self.right[at + 1:])

    def test_truths_for_ints(self):
        g = self.grown
        self.assert_wrong(self.changed(g.x, (False, 0, g.small)))
        self.assert_wrong(self.changed(g.y, (True, 0, g.big)))
        self.assert_wrong(self.changed(g.two, (g.two, True, g.four)))
        self.assert_wrong(self.changed(g.four, (g.four, False, None)))
        book = Book()
        book.named(("leaf", ()))
        book.named(("tree", (("a", 0),)))
        view = Holding(book, (0, 1))
        self.assertIs(right_kept(view, (1,), ((0, 0, 1), (1, 0, None))), True)
        self.assert_wrong(((0, 0, True), (1, 0, None)), (1,), view=view)
        self.assert_wrong(((0, 0, 1), (1, 0, False)), (1,), view=view)

    def test_anything(self):
        g = self.grown
        for thing in odd_things():
            if thing != ():
                self.assert_wrong(thing, ())
            self.assert_wrong(thing)
            self.assert_wrong((thing,))
            self.assert_wrong(self.right + (thing,))
            self.assert_wrong((thing,) + self.right)
            self.assert_wrong(self.changed(g.two, (thing, 1, g.four)))
            self.assert_wrong(self.changed(g.two, (g.two, thing, g.four)))
            self.assert_wrong(self.changed(g.two, (g.two, 1, thing)))
            if thing is not None:
                self.assert_wrong(self.changed(g.four, (g.four, 0, thing)))


if __name__ == "__main__":
    unittest.main()
