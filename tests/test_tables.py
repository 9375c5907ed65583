"""Points 16 and 17: states, their least asks, and tables."""

import itertools
import unittest

from samples import ladder, naive_below, odd_things, shapes_of, strands

from fewasks.errors import TooMany
from fewasks.tables import right_table, table

# 1 is over 0, 2 is by itself.
KNOWN = ((0, 1, 2), ((1, 0),))


def naive_states(shape):
    """Point 16, word for word."""
    under = {version: naive_below(shape, version) for version in shape[0]}
    for places in itertools.product("hlo", repeat=len(shape[0])):
        has = tuple(version for version, place in zip(shape[0], places) if place == "h")
        lacks = tuple(version for version, place in zip(shape[0], places) if place == "l")
        if (all(under[version] <= set(has) for version in has)
                and all(upper in lacks for version in lacks for upper in shape[0] if version in under[upper])):
            yield (has, lacks)


class Naive:
    """The least of each state, by asking for it as point 16 says."""

    def __init__(self, shape):
        self.shape = shape
        self.under = {version: naive_below(shape, version) for version in shape[0]}
        self.known = {}

    def left(self, state):
        return [version for version in self.shape[0] if version not in state[0] + state[1]]

    def worst(self, state, version):
        has = tuple(sorted({*state[0], version, *self.under[version]}))
        over = {upper for upper in self.shape[0] if version in self.under[upper]}
        lacks = tuple(sorted({*state[1], version, *over}))
        return max(self.least((has, state[1])), self.least((state[0], lacks)))

    def least(self, state):
        if state not in self.known:
            left = self.left(state)
            self.known[state] = 1 + min(self.worst(state, version) for version in left) if left else 0
        return self.known[state]


class Tables(unittest.TestCase):
    def assert_tabled(self, known):
        told = table(known)
        naive = Naive(known)
        self.assertEqual([row[:2] for row in told], sorted(naive_states(known)))
        for has, lacks, least, ask in told:
            state = (has, lacks)
            self.assertEqual(least, naive.least(state))
            if naive.left(state):
                self.assertIn(ask, naive.left(state))
                self.assertEqual(naive.worst(state, ask), least - 1)
            else:
                self.assertIsNone(ask)
        self.assertIs(right_table(known, told), True)

    def test_of_no_versions(self):
        self.assertEqual(table(((), ())), (((), (), 0, None),))
        self.assertIs(right_table(((), ()), (((), (), 0, None),)), True)
        for thing in [(), ((), (), 0, None), (((), (), 0, 0),), (((), (), 1, None),), (((), (), False, None),)]:
            self.assertIs(right_table(((), ()), thing), False)

    def test_of_one_version(self):
        self.assertEqual(table(((7,), ())), (((), (), 1, 7), ((), (7,), 0, None), ((7,), (), 0, None)))

    def test_of_a_chain_of_three(self):
        known = ((2, 3, 5), ((3, 2), (5, 3)))
        self.assertEqual(table(known), (
            ((), (), 2, 3), ((), (2, 3, 5), 0, None), ((), (3, 5), 1, 2), ((), (5,), 2, table(known)[3][3]),
            ((2,), (), 2, table(known)[4][3]), ((2,), (3, 5), 0, None), ((2,), (5,), 1, 3),
            ((2, 3), (), 1, 5), ((2, 3), (5,), 0, None), ((2, 3, 5), (), 0, None),
        ))

    def test_all_shapes_of_none_to_four_versions(self):
        for many in range(5):
            for known in shapes_of(many):
                self.assert_tabled(known)

    def test_all_shapes_of_five_versions(self):
        for known in shapes_of(5):
            self.assert_tabled(known)

    def test_with_gaps_between_the_versions(self):
        self.assert_tabled(((3, 10, 11, 40, 10 ** 59), ((11, 3), (40, 10), (40, 11), (10 ** 59, 3))))

    def test_the_same_again(self):
        self.assertEqual(table(KNOWN), table(KNOWN))
        self.assertEqual(table(ladder(5)), table(ladder(5)))

    def test_apart_each_must_be_asked(self):
        for many in range(6):
            known = (tuple(range(many)), ())
            told = {row[:2]: row[2] for row in table(known)}
            self.assertEqual(told[(), ()], many)
            self.assertEqual(len(told), 3 ** many)


class RightTable(unittest.TestCase):
    def setUp(self):
        self.right = table(KNOWN)

    def assert_wrong(self, thing):
        with self.subTest(str(thing)[:60]):
            self.assertIs(right_table(KNOWN, thing), False)

    def put(self, at, row):
        return self.right[:at] + (row,) + self.right[at + 1:]

    def test_a_row_more_less_twice_or_out_of_order(self):
        many = len(self.right)
        self.assert_wrong(())
        self.assert_wrong(self.right[::-1])
        for at in range(many):
            self.assert_wrong(self.right[:at] + self.right[at + 1:])
            self.assert_wrong(self.right[:at + 1] + self.right[at:])
            if at:
                self.assert_wrong(self.put(at, self.right[at - 1]))
                self.assert_wrong(self.right[:at - 1] + (self.right[at], self.right[at - 1]) + self.right[at + 1:])
        self.assert_wrong(self.right + (((0, 1, 2), (3,), 0, None),))
        # 1 is held and 0 below it is not, or 0 lacks and 1 over it does not.
        for has, lacks in [((1,), ()), ((), (0,)), ((1,), (0,)), ((0,), (0, 1)), ((3,), ())]:
            row = (has, lacks, 1, 2)
            self.assert_wrong(tuple(sorted(self.right + (row,), key=lambda some: some[:2])))

    def test_another_least(self):
        for at, (has, lacks, least, ask) in enumerate(self.right):
            for other in [least - 1, least + 1, None, str(least), (least,), -least - 1, 10 ** 59]:
                self.assert_wrong(self.put(at, (has, lacks, other, ask)))

    def test_another_ask(self):
        naive = Naive(KNOWN)
        rights = 0
        for at, (has, lacks, least, ask) in enumerate(self.right):
            left = naive.left((has, lacks))
            for other in [-1, 0, 1, 2, 3, None, "0", (0,), 10 ** 59]:
                row = (has, lacks, least, other)
                if other in left:
                    due = naive.worst((has, lacks), other) == least - 1
                else:
                    due = other is None and not left
                rights += due and other != ask
                self.assertIs(right_table(KNOWN, self.put(at, row)), due)
        self.assertGreater(rights, 0)

    def test_an_ask_that_does_not_meet_the_least(self):
        known = strands(3, 1)
        right = table(known)
        self.assertEqual(right[0], ((), (), 2, 1))
        for ask in (0, 2):
            self.assertIs(right_table(known, (((), (), 2, ask),) + right[1:]), False)
            self.assertIs(right_table(known, (((), (), 3, ask),) + right[1:]), False)

    def test_none_where_something_is_open_and_an_ask_where_nothing_is(self):
        for at, (has, lacks, least, ask) in enumerate(self.right):
            if ask is None:
                for other in (0, 1, 2):
                    self.assert_wrong(self.put(at, (has, lacks, least, other)))
            else:
                self.assert_wrong(self.put(at, (has, lacks, least, None)))

    def test_lists_for_tuples(self):
        self.assert_wrong(list(self.right))
        for at, (has, lacks, least, ask) in enumerate(self.right):
            for row in [[has, lacks, least, ask], (list(has), lacks, least, ask), (has, list(lacks), least, ask)]:
                self.assert_wrong(self.put(at, row))

    def test_rows_too_long_or_too_short(self):
        for at, row in enumerate(self.right):
            for other in [row[:3], row + (None,), row + row, ()]:
                self.assert_wrong(self.put(at, other))

    def test_a_truth_for_an_int(self):
        turned = {0: False, 1: True}
        tried = 0
        for at, (has, lacks, least, ask) in enumerate(self.right):
            for row in [(tuple(turned.get(v, v) for v in has), lacks, least, ask),
                        (has, tuple(turned.get(v, v) for v in lacks), least, ask),
                        (has, lacks, turned.get(least, least), ask), (has, lacks, least, turned.get(ask, ask))]:
                if repr(row) != repr(self.right[at]):
                    tried += 1
                    self.assert_wrong(self.put(at, row))
        self.assertGreater(tried, 20)

    def test_anything(self):
        for thing in odd_things():
            self.assert_wrong(thing)
            for at in (0, 3, len(self.right) - 1):
                has, lacks, least, ask = self.right[at]
                self.assert_wrong(self.put(at, thing))
                for row in [(thing, lacks, least, ask), (has, thing, least, ask), (has, lacks, thing, ask),
                            (has, lacks, least, thing), ((thing,), lacks, least, ask), (has, (thing,), least, ask)]:
                    if repr(row) != repr(self.right[at]):
                        self.assert_wrong(self.put(at, row))


class Large(unittest.TestCase):
    def test_six_versions_are_too_many(self):
        for known in [(tuple(range(6)), ()), strands(6, 1), ladder(6), ladder(400), (tuple(range(7)), ())]:
            self.assertRaises(TooMany, table, known)
            for thing in [*odd_things(), table(ladder(5)), (((), (), 0, None),)]:
                self.assertRaises(TooMany, right_table, known, thing)


if __name__ == "__main__":
    unittest.main()
