"""Points 18, 21 and 22: what is wanted, and the reasons."""

import itertools
import random
import unittest

from samples import odd_things

from fewasks.book import Book
from fewasks.errors import NoName
from fewasks.holding import Holding
from fewasks.reasons import reasons, right_reasons, wanted


class Grove:
    """Leaves x, y and z; small has a: x, b: y; mid has a: small, c: z; top has a: mid, b: small, d: x; bare is empty.

    one has the root small, two the root top, three the root mid, four the root bare, five the root small.
    """

    def __init__(self):
        self.book = Book()
        self.x, self.y, self.z = [self.book.named(("leaf", (text,))) for text in "xyz"]
        self.small = self.tree(a=self.x, b=self.y)
        self.mid = self.tree(a=self.small, c=self.z)
        self.top = self.tree(a=self.mid, b=self.small, d=self.x)
        self.bare = self.tree()
        self.one = self.book.named(("version", (), self.small, 1))
        self.two = self.book.named(("version", (self.one,), self.top, 2))
        self.three = self.book.named(("version", (self.one,), self.mid, 3))
        self.four = self.book.named(("version", (self.two, self.three), self.bare, 4))
        self.five = self.book.named(("version", (), self.small, 5))
        self.everything = tuple(range(len(self.book)))

    def tree(self, **entries):
        return self.book.named(("tree", tuple(sorted(entries.items()))))

    def without(self, *names):
        return Holding(self.book, [name for name in self.everything if name not in names])


def naive_wanted(view, versions, under):
    """Point 21, word for word: the versions, the roots and what came in by entries."""
    book = view.book
    roots = {book.thing(version)[2] for version in versions if view.holds(version)}
    entered = {name for root in roots if view.holds(root) for label, name in book.thing(root)[1]
               if under == () or label in under}
    while True:
        more = {name for tree in entered if view.holds(tree) and book.kind(tree) == "tree"
                for _, name in book.thing(tree)[1]}
        if more <= entered:
            return set(versions), roots, entered
        entered |= more


def rights(view, versions, under):
    """Point 22, word for word: for each wanted name whole, and all that may stand in by."""
    book = view.book
    starts, roots, entered = naive_wanted(view, versions, under)
    told = {}
    for name in starts | roots | entered:
        if name in entered:
            bys = [tree for tree in view.names() if book.kind(tree) == "tree" and any(
                part == name and (tree in roots and (under == () or label in under) or tree in entered)
                for label, part in book.thing(tree)[1])]
            told[name] = (True, bys)
        elif name in starts:
            told[name] = (False, [None])
        else:
            told[name] = (False, [v for v in starts if view.holds(v) and book.thing(v)[2] == name])
    return told


def random_grove(dice):
    """A book of leaves, trees and versions, many of them with the same parts."""
    book = Book()
    names = [book.named(("leaf", (str(k),))) for k in range(4)]
    for _ in range(8):
        labels = sorted(dice.sample("abcd", dice.randrange(4)))
        names.append(book.named(("tree", tuple((label, dice.choice(names)) for label in labels))))
        names = [name for name in names if book.depth(book.thing(name)) < 7]
    trees = [name for name in names if book.kind(name) == "tree"] or [book.named(("tree", ()))]
    versions = [book.named(("version", (), dice.choice(trees), stamp)) for stamp in range(4)]
    view = Holding(book, [name for name in range(len(book)) if dice.random() < 0.85])
    return view, tuple(dice.choices(versions, k=dice.randrange(4)))


class Case(unittest.TestCase):
    def setUp(self):
        self.grove = Grove()
        self.view = self.grove.without()


class Wanted(Case):
    def assert_wanted(self, view, versions, under, held, lacking=()):
        told = wanted(view, versions, under=under)
        self.assertEqual(told, (tuple(sorted(held)), tuple(sorted(lacking))))
        self.assertEqual(naive_wanted(view, versions, under)[0] | naive_wanted(view, versions, under)[1]
                         | naive_wanted(view, versions, under)[2], set(held) | set(lacking))

    def test_nothing(self):
        self.assertEqual(wanted(self.view, ()), ((), ()))
        self.assertEqual(reasons(self.view, ()), ())
        self.assertIs(right_reasons(self.view, (), ()), True)

    def test_all_labels(self):
        g = self.grove
        self.assertEqual(wanted(self.view, (g.one,)), ((g.x, g.y, g.small, g.one), ()))
        self.assert_wanted(self.view, (g.one,), (), [g.one, g.small, g.x, g.y])
        self.assert_wanted(self.view, (g.two,), (), [g.two, g.top, g.mid, g.small, g.x, g.y, g.z])
        self.assert_wanted(self.view, (g.four,), (), [g.four, g.bare])

    def test_parents_are_not_wanted(self):
        g = self.grove
        self.assertNotIn(g.one, wanted(self.view, (g.two,))[0])

    def test_in_any_order_and_twice(self):
        g = self.grove
        for versions in [(g.one, g.four), (g.four, g.one), (g.four, g.one, g.one, g.four)]:
            self.assert_wanted(self.view, versions, (), [g.one, g.small, g.x, g.y, g.four, g.bare])

    def test_chosen_labels(self):
        g = self.grove
        self.assert_wanted(self.view, (g.two,), ("b",), [g.two, g.top, g.small, g.x, g.y])
        self.assert_wanted(self.view, (g.two,), ("d",), [g.two, g.top, g.x])
        self.assert_wanted(self.view, (g.two,), ("a",), [g.two, g.top, g.mid, g.small, g.x, g.y, g.z])
        for under in [("b", "d"), ("d", "b"), ("d", "b", "d", "nothing")]:
            self.assert_wanted(self.view, (g.two,), under, [g.two, g.top, g.small, g.x, g.y])

    def test_a_label_that_a_root_has_not(self):
        g = self.grove
        self.assert_wanted(self.view, (g.two,), ("c",), [g.two, g.top])
        self.assert_wanted(self.view, (g.two, g.three), ("c",), [g.two, g.top, g.three, g.mid, g.z])
        self.assert_wanted(self.view, (g.four,), ("a",), [g.four, g.bare])

    def test_labels_choose_in_roots_alone(self):
        g = self.grove
        # small came in by an entry, so its a is wanted though only b is chosen.
        self.assert_wanted(self.view, (g.two,), ("b",), [g.two, g.top, g.small, g.x, g.y])

    def test_a_root_that_is_also_an_entry(self):
        g = self.grove
        self.assert_wanted(self.view, (g.three,), ("c",), [g.three, g.mid, g.z])
        self.assert_wanted(self.view, (g.three, g.two), ("c", "a"), [g.three, g.two, g.mid, g.top, g.small, g.x, g.y, g.z])
        self.assert_wanted(self.view, (g.one,), ("b",), [g.one, g.small, g.y])
        # By top's b, small counts as whole, so that its a is wanted, too.
        self.assert_wanted(self.view, (g.one, g.two), ("b",), [g.one, g.two, g.top, g.small, g.x, g.y])

    def test_versions_that_are_not_held(self):
        g = self.grove
        self.assert_wanted(g.without(g.one), (g.one,), (), [], [g.one])
        self.assert_wanted(g.without(g.one), (g.one, g.four), (), [g.four, g.bare], [g.one])

    def test_roots_that_are_not_held(self):
        g = self.grove
        self.assert_wanted(g.without(g.small), (g.one,), (), [g.one], [g.small])
        # top is not held, but small comes in by one's road.
        self.assert_wanted(g.without(g.top), (g.one, g.two), (), [g.one, g.two, g.small, g.x, g.y], [g.top])

    def test_trees_and_leaves_that_lack(self):
        g = self.grove
        self.assert_wanted(g.without(g.mid), (g.two,), (), [g.two, g.top, g.small, g.x, g.y], [g.mid])
        self.assert_wanted(g.without(g.small), (g.two,), (), [g.two, g.top, g.mid, g.x, g.z], [g.small])
        self.assert_wanted(g.without(g.x, g.y), (g.one,), ("a",), [g.one, g.small], [g.x])
        self.assert_wanted(Holding(g.book, ()), (g.one, g.two), (), [], [g.one, g.two])

    def test_many_roads(self):
        book = Book()
        leaf = book.named(("leaf", ()))
        name = book.named(("tree", (("a", leaf),)))
        for _ in range(7):
            name = book.named(("tree", tuple((label, name) for label in "abcdefghijklmnopqrst")))
        version = book.named(("version", (), name, 0))
        view = Holding(book, range(len(book)))
        self.assertEqual(wanted(view, (version,)), (tuple(range(len(book))), ()))
        self.assertEqual(wanted(view, (version,), under=("t",)), (tuple(range(len(book))), ()))
        told = reasons(view, (version,), under=("c",))
        self.assertIs(right_reasons(view, (version,), told, under=("c",)), True)

    def test_random_groves(self):
        dice = random.Random(21)
        for _ in range(300):
            view, versions = random_grove(dice)
            for under in [(), ("a",), ("d", "b"), ("q",)]:
                starts, roots, entered = naive_wanted(view, versions, under)
                names = sorted(starts | roots | entered)
                self.assertEqual(wanted(view, versions, under=under), (
                    tuple(name for name in names if view.holds(name)),
                    tuple(name for name in names if not view.holds(name))))


class NoNames(Case):
    def test_the_first_name_of_no_version(self):
        g = self.grove
        for versions, name in [((g.x,), g.x), ((g.top,), g.top), ((99,), 99), ((-1,), -1), ((g.one, 99, g.x), 99),
                               ((g.one, g.bare, -1), g.bare), ((g.two, 10 ** 59), 10 ** 59)]:
            asks = [lambda: wanted(self.view, versions), lambda: reasons(self.view, versions),
                    lambda: wanted(self.view, versions, under=("a",)), lambda: reasons(g.without(g.one), versions)]
            asks += [lambda thing=thing: right_reasons(self.view, versions, thing) for thing in odd_things()]
            asks.append(lambda: right_reasons(self.view, versions, reasons(self.view, (g.one,)), under=("a",)))
            for ask in asks:
                with self.assertRaises(NoName) as caught:
                    ask()
                self.assertEqual(caught.exception.name, name)


class Reasons(Case):
    def right(self):
        g = self.grove
        return ((g.x, True, g.small), (g.y, True, g.small), (g.z, True, g.mid), (g.small, True, g.mid),
                (g.mid, True, g.top), (g.top, False, g.two), (g.one, False, None), (g.two, False, None))

    def versions(self):
        return (self.grove.two, self.grove.one)

    def put(self, at, triple):
        return self.right()[:at] + (triple,) + self.right()[at + 1:]

    def assert_wrong(self, thing, view=None, versions=None, under=()):
        view = self.view if view is None else view
        versions = self.versions() if versions is None else versions
        with self.subTest(str(thing)[:60]):
            self.assertIs(right_reasons(view, versions, thing, under=under), False)

    def test_right_ones(self):
        g = self.grove
        self.assertIs(right_reasons(self.view, self.versions(), self.right()), True)
        for at, triple in [(0, (g.x, True, g.top)), (3, (g.small, True, g.top))]:
            self.assertIs(right_reasons(self.view, self.versions(), self.put(at, triple)), True)

    def test_every_name_in_by(self):
        g = self.grove
        for under in [(), ("a",), ("b",), ("b", "d"), ("c",)]:
            told = reasons(self.view, self.versions(), under=under)
            due = rights(self.view, self.versions(), under)
            for at, (name, whole, _) in enumerate(told):
                for by in [None, -1, *range(len(g.book) + 1)]:
                    thing = told[:at] + ((name, whole, by),) + told[at + 1:]
                    self.assertIs(right_reasons(self.view, self.versions(), thing, under=under), by in due[name][1])

    def test_whole_turned_about(self):
        g = self.grove
        for at, (name, whole, by) in enumerate(self.right()):
            self.assert_wrong(self.put(at, (name, not whole, by)))
            self.assert_wrong(self.put(at, (name, not whole, None)))
        # small is also the root of one, yet it came in by an entry.
        self.assert_wrong(self.put(3, (g.small, False, g.one)))

    def test_a_triple_more_less_twice_or_out_of_order(self):
        g, right = self.grove, self.right()
        self.assert_wrong(())
        self.assert_wrong(right[::-1])
        for at in range(len(right)):
            self.assert_wrong(right[:at] + right[at + 1:])
            self.assert_wrong(right[:at + 1] + right[at:])
            if at:
                self.assert_wrong(right[:at - 1] + (right[at], right[at - 1]) + right[at + 1:])
                self.assert_wrong(self.put(at, right[at - 1]))
        self.assert_wrong(right + ((g.three, False, None),))
        self.assert_wrong(tuple(sorted(right + ((g.bare, True, g.top),))))

    def test_by_an_entry_whose_label_is_not_chosen(self):
        g = self.grove
        right = ((g.x, True, g.small), (g.y, True, g.small), (g.small, True, g.top), (g.top, False, g.two),
                 (g.two, False, None))
        self.assertIs(right_reasons(self.view, (g.two,), right, under=("b",)), True)
        self.assert_wrong(((g.x, True, g.top), *right[1:]), versions=(g.two,), under=("b",))
        # mid has small in an entry, and is itself in an entry of top, but of a label that is not chosen.
        self.assert_wrong((*right[:2], (g.small, True, g.mid), *right[3:]), versions=(g.two,), under=("b",))
        self.assertIs(right_reasons(self.view, (g.two,), ((g.x, True, g.top), *right[1:]), under=("d", "b")), True)

    def test_by_a_root_that_has_the_name_under_two_labels(self):
        book = Book()
        leaf = book.named(("leaf", ()))
        tree = book.named(("tree", (("a", leaf), ("b", leaf))))
        version = book.named(("version", (), tree, 0))
        view = Holding(book, (leaf, tree, version))
        right = ((leaf, True, tree), (tree, False, version), (version, False, None))
        for under in [("a",), ("b",), (), ("b", "a")]:
            self.assertEqual(reasons(view, (version,), under=under), right)
            self.assertIs(right_reasons(view, (version,), right, under=under), True)
        self.assertEqual(reasons(view, (version,), under=("c",)), right[1:])
        self.assertIs(right_reasons(view, (version,), right, under=("c",)), False)

    def test_what_is_not_held(self):
        g = self.grove
        view = g.without(g.mid, g.one, g.x)
        right = ((g.x, True, g.top), (g.y, True, g.small), (g.small, True, g.top), (g.mid, True, g.top),
                 (g.top, False, g.two), (g.one, False, None), (g.two, False, None))
        self.assertIs(right_reasons(view, self.versions(), right), True)
        # mid has small in an entry, but it is not held.
        self.assert_wrong((*right[:2], (g.small, True, g.mid), *right[3:]), view)
        self.assert_wrong(self.right(), view)
        self.assertIs(right_reasons(g.without(g.one), (g.one,), ((g.one, False, None),)), True)
        self.assertIs(right_reasons(g.without(g.small), (g.one,), ((g.small, False, g.one), (g.one, False, None))), True)

    def test_a_root_by_a_version_that_has_it(self):
        g = self.grove
        view, versions = g.without(g.x, g.y), (g.five, g.one, g.four)
        for by, due in [(g.one, True), (g.five, True), (g.four, False), (g.two, False), (None, False), (g.top, False),
                        (g.small, False)]:
            thing = ((g.small, False, by), (g.bare, False, g.four), (g.one, False, None), (g.four, False, None),
                     (g.five, False, None))
            self.assertIs(right_reasons(view, versions, thing, under=("q",)), due)
        view = g.without(g.one)
        for by, due in [(g.one, False), (g.five, True)]:
            thing = ((g.small, False, by), (g.one, False, None), (g.five, False, None))
            self.assertIs(right_reasons(view, (g.one, g.five), thing, under=("q",)), due)

    def test_lists_for_tuples(self):
        self.assert_wrong(list(self.right()))
        for at, triple in enumerate(self.right()):
            self.assert_wrong(self.put(at, list(triple)))

    def test_triples_too_long_or_too_short(self):
        for at, triple in enumerate(self.right()):
            for other in [triple[:2], triple + (None,), triple[1:], ()]:
                self.assert_wrong(self.put(at, other))

    def test_truths_for_ints_and_ints_for_truths(self):
        for at, (name, whole, by) in enumerate(self.right()):
            self.assert_wrong(self.put(at, (name, int(whole), by)))
        book = Book()
        book.named(("tree", ()))
        book.named(("tree", (("a", 0),)))
        book.named(("version", (), 1, 0))
        view = Holding(book, (0, 1, 2))
        right = ((0, True, 1), (1, False, 2), (2, False, None))
        self.assertIs(right_reasons(view, (2,), right), True)
        for thing in [((False, True, 1), *right[1:]), ((0, True, True), *right[1:]), (right[0], (True, False, 2), right[2]),
                      (right[0], (1, 0, 2), right[2]), ((0, 1, 1), *right[1:])]:
            self.assertIs(right_reasons(view, (2,), thing), False)

    def test_anything(self):
        for thing in odd_things():
            self.assert_wrong(thing)
            for at, (name, whole, by) in enumerate(self.right()):
                for triple in [thing, (thing, whole, by), (name, thing, by), (name, whole, thing), (thing, thing, thing)]:
                    if triple != (name, whole, by):
                        self.assert_wrong(self.put(at, triple))

    def test_told_reasons(self):
        g = self.grove
        for many in range(4):
            for versions in itertools.permutations((g.one, g.two, g.three, g.four), many):
                for under in [(), ("a",), ("c", "b")]:
                    for view in [self.view, g.without(g.mid), g.without(g.small, g.one), g.without(g.top, g.y)]:
                        self.assert_told(view, versions, under)

    def assert_told(self, view, versions, under):
        told = reasons(view, versions, under=under)
        due = rights(view, versions, under)
        self.assertEqual([triple[0] for triple in told], sorted(due))
        for name, whole, by in told:
            self.assertIs(whole, due[name][0])
            self.assertIn(by, due[name][1])
        self.assertIs(right_reasons(view, versions, told, under=under), True)
        self.assertEqual(reasons(view, versions, under=under), told)
        self.assertEqual(tuple(sorted(sum(wanted(view, versions, under=under), ()))), tuple(sorted(due)))

    def test_random_groves(self):
        dice = random.Random(22)
        for _ in range(300):
            view, versions = random_grove(dice)
            for under in [(), ("a",), ("d", "b"), ("q",)]:
                self.assert_told(view, versions, under)

    def test_random_papers(self):
        dice = random.Random(23)
        for _ in range(200):
            view, versions = random_grove(dice)
            under = dice.choice([(), ("a",), ("c", "b")])
            due = rights(view, versions, under)
            told = [(name, due[name][0], dice.choice(due[name][1])) for name in sorted(due)]
            self.assertIs(right_reasons(view, versions, tuple(told), under=under), True)
            if told:
                at = dice.randrange(len(told))
                by = dice.randrange(len(view.book))
                told[at] = (told[at][0], told[at][1], by)
                self.assertIs(right_reasons(view, versions, tuple(told), under=under), by in due[told[at][0]][1])


if __name__ == "__main__":
    unittest.main()
