"""Points 27 to 29: choices, prices, and pack papers."""

import itertools
import random
import unittest

from samples import leafed, odd_things

from fewasks.differences import PUT, done, least, price
from fewasks.errors import TooMany
from fewasks.packs import OVER, PACK, least_pack, price_of, right_pack


def sending_costs(book, leaves, bases, over):
    """What each way of sending costs, by point 28."""
    costs = {}
    for leaf in leaves:
        rows = book.thing(leaf)[1]
        costs[leaf, None] = PUT * len(rows)
        for source in bases + leaves:
            if source != leaf:
                costs[leaf, source] = over + least(book.thing(source)[1], rows)[1][-1]
    return costs


def leads_round(source_of, leaf):
    """Whether going from leaf to base again and again leads back to the leaf."""
    at = source_of.get(leaf)
    for _ in source_of:
        if at == leaf:
            return True
        at = source_of.get(at)
    return False


def cheapest_by_trying(book, leaves, bases, over):
    costs = sending_costs(book, leaves, bases, over)
    prices = []
    for sources in itertools.product(*[(None, *bases, *leaves)] * len(leaves)):
        source_of = dict(zip(leaves, sources))
        if not any(leads_round(source_of, leaf) for leaf in leaves):
            prices.append(sum(costs[leaf, source_of[leaf]] for leaf in leaves))
    return min(prices)


def are_right_prices(book, leaves, bases, prices, over):
    """Point 28, word for word, of pairs of a tuple of leaves and an int."""
    costs = sending_costs(book, leaves, bases, over)
    for (leaf, source), cost in costs.items():
        laid = [paid for inside, paid in prices if leaf in inside and source not in inside]
        if sum(laid) > cost:
            return False
    return True


def random_pack(dice, many, signs):
    """A book of leaves near one another, split into leaves and bases."""
    core = [dice.choice(signs) for _ in range(dice.randrange(4, 12))]
    rows = []
    for _ in range(many):
        some = [text for text in core if dice.random() < 0.85]
        for _ in range(dice.randrange(3)):
            some.insert(dice.randrange(len(some) + 1), dice.choice(signs))
        rows.append(tuple(some))
    book = leafed(*rows)
    bases = tuple(sorted(dice.sample(range(len(book)), dice.randrange(len(book) // 2 + 1))))
    return book, tuple(name for name in range(len(book)) if name not in bases), bases


class Case(unittest.TestCase):
    def assert_pack(self, book, leaves, bases, over=OVER):
        """The told paper is right by its checker and by the words, and its price is told."""
        choice, prices = told = least_pack(book, leaves, bases, over=over)
        self.assertEqual([triple[0] for triple in choice], list(leaves))
        source_of = {leaf: base for leaf, base, script in choice}
        for leaf, base, script in choice:
            if base is None:
                self.assertEqual(script, ())
            else:
                self.assertIn(base, bases + leaves)
                self.assertEqual(done(book.thing(base)[1], script), book.thing(leaf)[1])
            self.assertFalse(leads_round(source_of, leaf))
        self.assertEqual(sum(paid for inside, paid in prices), price_of(book, choice, over=over))
        self.assertTrue(are_right_prices(book, leaves, bases, prices, over))
        self.assertIs(right_pack(book, leaves, bases, told, over=over), True)
        self.assertEqual(least_pack(book, leaves, bases, over=over), told)
        return told


class LeastPack(Case):
    def test_constants(self):
        self.assertEqual((OVER, PACK), (2, 24))

    def test_no_leaves(self):
        book = leafed("a", "b")
        for bases in [(), (0,), (0, 1)]:
            for over in (0, 2, 1000):
                self.assertEqual(least_pack(book, (), bases, over=over), ((), ()))
                self.assertIs(right_pack(book, (), bases, ((), ()), over=over), True)

    def test_one_leaf(self):
        book = leafed("abcdefgh", "abcdefgx", "")
        self.assertEqual(least_pack(book, (0,), ()), (((0, None, ()),), (((0,), 16),)))
        self.assertEqual(least_pack(book, (1,), (0,)),
                         (((1, 0, (("take", 0, 7), ("put", ("x",)))),), (((1,), OVER + 3 + 2),)))
        self.assertEqual(least_pack(book, (2,), ()), (((2, None, ()),), ()))
        self.assertEqual(least_pack(book, (2,), (0, 1)), (((2, None, ()),), ()))

    def test_a_row_of_leaves_each_near_the_next(self):
        book = leafed("abcdefgh", "bcdefghi", "cdefghij", "defghijk")
        choice, prices = self.assert_pack(book, (0, 1, 2, 3), ())
        # One is sent plain, and each other one from a neighbour: a take, a put and over.
        self.assertEqual(price_of(book, choice), 16 + 3 * (3 + 2 + 2))
        choice, prices = self.assert_pack(book, (1, 2, 3), (0,))
        self.assertEqual(price_of(book, choice), 3 * (3 + 2 + 2))
        choice, prices = self.assert_pack(book, (0, 1), (2, 3), over=1000)
        self.assertEqual([triple[1] for triple in choice], [None, None])

    def test_rounds(self):
        # Each is cheapest over the other; the two rounds are near each other.
        book = leafed("abcdefgh", "abcdefgh" + "i", "pqrstuvw", "pqrstuvw" + "x", "abcdefgh" + "pqrstuvw" + "x")
        choice, prices = self.assert_pack(book, (0, 1, 2, 3, 4), ())
        self.assertTrue(any(len(inside) > 1 for inside, paid in prices))
        choice, prices = self.assert_pack(book, (0, 1, 2, 3), (4,))
        self.assertTrue(all(base is not None for leaf, base, script in choice))

    def test_rounds_within_rounds(self):
        dice = random.Random(29)
        nested = 0
        for _ in range(150):
            book, leaves, bases = random_pack(dice, 8, "abcd")
            choice, prices = self.assert_pack(book, leaves, bases, dice.choice([0, 1, 2]))
            sets = [set(inside) for inside, paid in prices if len(inside) > 1]
            nested += any(one < other for one in sets for other in sets)
        self.assertGreater(nested, 0)

    def test_none_is_cheaper_by_trying_all(self):
        dice = random.Random(28)
        for _ in range(250):
            book, leaves, bases = random_pack(dice, 6, dice.choice(["ab", "abcde"]))
            leaves = leaves[:4]
            over = dice.choice([0, 1, 2, 5, 1000])
            choice, prices = self.assert_pack(book, leaves, bases, over)
            self.assertEqual(price_of(book, choice, over=over), cheapest_by_trying(book, leaves, bases, over))

    def test_over(self):
        book = leafed("abcd", "abce")
        for over, due in [(0, 8 + 5), (1, 8 + 6), (2, 8 + 7), (3, 16), (1000, 16)]:
            choice, prices = self.assert_pack(book, (0, 1), (), over)
            self.assertEqual(price_of(book, choice, over=over), due)
        self.assertEqual(least_pack(book, (0, 1), ()), least_pack(book, (0, 1), (), over=2))

    def test_pack_leaves_and_bases(self):
        dice = random.Random(27)
        rows = [tuple(dice.choice("abc") for _ in range(40)) for _ in range(2 * PACK)]
        book = leafed(*rows)
        self.assertEqual(len(book), 2 * PACK)
        for over in (0, OVER, 1000):
            self.assert_pack(book, tuple(range(PACK)), tuple(range(PACK, 2 * PACK)), over)
        near = leafed(*[("x",) * 30 + (str(k),) + ("y",) * 9 for k in range(2 * PACK)])
        choice, prices = self.assert_pack(near, tuple(range(PACK)), tuple(range(PACK, 2 * PACK)))
        self.assertEqual(price_of(near, choice), PACK * (OVER + 3 + 2 + 3))
        choice, prices = self.assert_pack(near, tuple(range(PACK, 2 * PACK)), ())
        self.assertEqual(price_of(near, choice), 80 + (PACK - 1) * (OVER + 3 + 2 + 3))

    def test_too_many(self):
        book = leafed(*[str(k) for k in range(10, 80)])
        many = tuple(range(PACK + 1))
        for leaves, bases in [(many, ()), ((), many), (many, (60,)), ((60,), many), (many, tuple(range(30, 60))),
                              (tuple(range(40)), ())]:
            self.assertRaises(TooMany, least_pack, book, leaves, bases)
            for thing in [*odd_things(), ((), ())]:
                self.assertRaises(TooMany, right_pack, book, leaves, bases, thing)
        self.assert_pack(book, many[:PACK], ())
        self.assert_pack(book, (60,), many[:PACK])

    def test_nothing_is_named(self):
        book = leafed("abc", "abd", "abe")
        least_pack(book, (0, 1), (2,))
        self.assertEqual(len(book), 3)


class PriceOf(unittest.TestCase):
    def test_over_handed_in_and_left_out(self):
        book = leafed("abcd", "abce", "", "abcx")
        script = (("take", 0, 3), ("put", ("e",)))
        for choice, plain, overs in [((), 0, 0), (((0, None, ()),), 8, 0), (((2, None, ()),), 0, 0),
                                     (((0, None, ()), (1, 0, script)), 8 + 5, 1),
                                     (((1, 0, script), (2, 0, ())), 5, 2), (((2, 3, ()),), 0, 1)]:
            self.assertEqual(price_of(book, choice), plain + 2 * overs)
            for over in (0, 1, 2, 1000):
                self.assertEqual(price_of(book, choice, over=over), plain + over * overs)

    def test_a_script_that_is_not_least(self):
        book = leafed("abcd", "abce")
        script = (("take", 0, 1), ("take", 1, 1), ("take", 2, 1), ("put", ("e",)))
        self.assertEqual(price_of(book, ((1, 0, script),)), 2 + price(script))
        self.assertEqual(price(script), 11)


class RightPack(Case):
    """Leaves 0, 1, 2 and 4, base 3; 0 and 1 are near each other, 2 is near the base, 4 has no rows."""

    LEAVES, BASES = (0, 1, 2, 4), (3,)
    TO_1 = (("take", 0, 5), ("put", ("x",)))
    TO_0 = (("take", 0, 5), ("put", ("f",)))
    TO_2 = (("take", 0, 5), ("put", ("z",)))
    CHOICE = ((0, None, ()), (1, 0, TO_1), (2, 3, TO_2), (4, None, ()))
    PRICES = (((0,), 7), ((0, 1), 5), ((1,), 7), ((2,), 7))
    RIGHT = (CHOICE, PRICES)

    def setUp(self):
        self.book = leafed("abcdef", "abcdex", "pqrstz", "pqrstu", "")

    def right(self, thing, **handed):
        return right_pack(self.book, self.LEAVES, self.BASES, thing, **handed)

    def assert_wrong(self, thing, **handed):
        with self.subTest(str(thing)[:70]):
            self.assertIs(self.right(thing, **handed), False)

    def assert_wrong_choice(self, choice):
        self.assert_wrong((choice, self.PRICES))

    def put(self, at, triple):
        return self.CHOICE[:at] + (triple,) + self.CHOICE[at + 1:]

    def test_the_right_one(self):
        self.assertIs(self.right(self.RIGHT), True)
        self.assertEqual(price_of(self.book, self.CHOICE), 12 + 7 + 7)

    def test_other_right_ones(self):
        turned = ((0, 1, self.TO_0), (1, None, ())) + self.CHOICE[2:]
        self.assertIs(self.right((turned, self.PRICES)), True)
        # 1 costs 5 from 0 and 9 from the base, so both together may pay up to 4 of what 0 pays.
        book = leafed("abcdefuv", "cdefuv", "abcdefgh")
        choice = ((0, 2, (("take", 0, 6), ("put", ("u", "v")))), (1, 0, (("take", 2, 6),)))
        for both, due in [(1, True), (2, True), (3, True), (4, True), (5, False), (8, False)]:
            prices = (((0,), 9 - both), ((0, 1), both), ((1,), 5))
            self.assertIs(right_pack(book, (0, 1), (2,), (choice, prices)), due)
        self.assertIs(right_pack(book, (0, 1), (2,), (choice, (((0,), 9), ((1,), 5)))), True)

    def test_sets_of_leaves_that_do_not_pay_apart(self):
        book = leafed("abcdef", "uvwxyz")
        choice = ((0, None, ()), (1, None, ()))
        for prices, due in [((((0,), 12), ((1,), 12)), True), ((((0,), 11), ((0, 1), 1), ((1,), 11)), False),
                            ((((0,), 12), ((0, 1), 12)), False), ((((0, 1), 24),), False)]:
            self.assertIs(right_pack(book, (0, 1), (), (choice, prices)), due)

    def test_a_leaf_left_out_twice_or_out_of_order(self):
        for at in range(4):
            self.assert_wrong_choice(self.CHOICE[:at] + self.CHOICE[at + 1:])
            self.assert_wrong_choice(self.CHOICE[:at + 1] + self.CHOICE[at:])
        self.assert_wrong_choice(self.CHOICE[::-1])
        self.assert_wrong_choice((self.CHOICE[1], self.CHOICE[0]) + self.CHOICE[2:])
        self.assert_wrong_choice(self.put(1, (0, None, ())))
        self.assert_wrong_choice(self.CHOICE + ((3, None, ()),))
        self.assert_wrong_choice(self.CHOICE[:3] + ((3, None, ()), self.CHOICE[3]))
        self.assert_wrong_choice(())
        self.assert_wrong(((), ()))

    def test_a_ring(self):
        ring = ((0, 1, self.TO_0), (1, 0, self.TO_1)) + self.CHOICE[2:]
        prices = (((0,), 7), ((1,), 7), ((2,), 7))
        self.assertTrue(are_right_prices(self.book, self.LEAVES, self.BASES, prices, 2))
        self.assertEqual(price_of(self.book, ring), 21)
        self.assert_wrong((ring, prices))
        self.assert_wrong((ring, self.PRICES))

    def test_a_long_ring(self):
        book = leafed("abcdKefgh", "abcdLefgh", "abcdMefgh", "abcdNefgh", "x")
        ring = tuple((leaf, (leaf + 1) % 4, (("take", 0, 4), ("put", ("KLMN"[leaf],)), ("take", 5, 4)))
                     for leaf in range(4))
        prices = tuple(((leaf,), 10) for leaf in range(4))
        self.assertTrue(are_right_prices(book, (0, 1, 2, 3), (4,), prices, 2))
        self.assertEqual(price_of(book, ring), 40)
        self.assertIs(right_pack(book, (0, 1, 2, 3), (4,), (ring, prices)), False)
        # A leaf that is sent plain does not mend it.
        with_x = (ring + ((4, None, ()),), prices + (((4,), 2),))
        self.assertIs(right_pack(book, (0, 1, 2, 3, 4), (), with_x), False)

    def test_over_itself(self):
        for at, leaf in enumerate(self.LEAVES):
            rows = self.book.thing(leaf)[1]
            self.assert_wrong_choice(self.put(at, (leaf, leaf, least(rows, rows)[0])))

    def test_a_base_that_is_none(self):
        book = leafed("abcdef", "abcdex", "pqrstz", "pqrstu", "", "pqrstv", "abcdey")
        self.assertIs(right_pack(book, self.LEAVES, self.BASES, self.RIGHT), True)
        for at, triple in [(2, (2, 5, self.TO_2)), (1, (1, 6, self.TO_1)), (2, (2, 7, self.TO_2)), (2, (2, -4, self.TO_2)),
                           (2, (2, "3", self.TO_2)), (2, (2, (3,), self.TO_2)), (2, (2, False, self.TO_2))]:
            self.assertIs(right_pack(book, self.LEAVES, self.BASES, (self.put(at, triple), self.PRICES)), False)

    def test_a_script_that_does_not_make_the_rows(self):
        for script in [(), (("take", 0, 5),), (("take", 0, 6),), (("take", 0, 5), ("put", ("y",))), self.TO_0,
                       (("take", 0, 7),), (("take", 6, 1),), (("take", 0, 5), ("put", ["x"])), list(self.TO_1), None,
                       (["take", 0, 5], ("put", ("x",))), (("take", False, 5), ("put", ("x",))), self.TO_1 + (None,)]:
            self.assert_wrong_choice(self.put(1, (1, 0, script)))

    def test_plain_with_a_script(self):
        for script in [(("put", tuple("abcdef")),), self.TO_0, [], None, False, 0, "", {}]:
            self.assert_wrong_choice(self.put(0, (0, None, script)))
        self.assert_wrong_choice(self.put(2, (2, None, ())))

    def test_a_choice_that_costs_more(self):
        dear = self.put(1, (1, 0, (("take", 0, 4), ("put", ("e", "x")))))
        self.assertEqual(price_of(self.book, dear), 28)
        for more in (self.PRICES, self.PRICES[:2] + (((1,), 9), ((2,), 7)), self.PRICES[:1] + (((0, 1), 7),) + self.PRICES[2:]):
            self.assert_wrong((dear, more))
        plain = self.put(1, (1, None, ()))
        self.assert_wrong((plain, self.PRICES))
        self.assert_wrong((plain, (((0,), 12), ((1,), 12), ((2,), 7))))

    def test_sets_twice_empty_out_of_order_or_of_others(self):
        prices = self.PRICES
        for other in [prices[::-1], (prices[1], prices[0]) + prices[2:], (prices[0], prices[2], prices[1], prices[3]),
                      (((0,), 3), ((0,), 4)) + prices[1:], (((0,), 4), ((0,), 3)) + prices[1:],
                      prices[:3] + (((2,), 3), ((2,), 4)), (((), 1),) + prices, (((), 5),) + prices[:1] + prices[2:],
                      (((0,), 7), ((1, 0), 5), ((1,), 7), ((2,), 7)), (((0,), 7), ((0, 0, 1), 5), ((1,), 7), ((2,), 7)),
                      (((0,), 7), ((0, 1), 5), ((1,), 7), ((2, 3), 7)), (((0,), 7), ((0, 1), 5), ((1,), 7), ((3,), 7)),
                      (((0,), 7), ((0, 1), 5), ((1,), 7), ((2,), 6), ((9,), 1)),
                      (((-1,), 1), ((0,), 7), ((0, 1), 5), ((1,), 7), ((2,), 6))]:
            self.assert_wrong((self.CHOICE, other))

    def test_a_price_below_one(self):
        self.assert_wrong((self.CHOICE, self.PRICES + (((4,), 0),)))
        self.assert_wrong((self.CHOICE, self.PRICES[:3] + (((2,), 8), ((4,), -1))))
        self.assert_wrong((self.CHOICE, (((0,), 7), ((0, 1), 5), ((0, 1, 2), 0), ((1,), 7), ((2,), 7))))

    def test_more_laid_on_a_way_than_it_costs(self):
        # All together 26, but one more on 2 from 3, on 1 from 0, on 0 from 1, on both plain, or on 4 plain.
        for prices in [(((0,), 7), ((0, 1), 4), ((1,), 7), ((2,), 8)), (((0,), 7), ((0, 1), 4), ((1,), 8), ((2,), 7)),
                       (((0,), 8), ((0, 1), 4), ((1,), 7), ((2,), 7)), (((0,), 7), ((0, 1), 6), ((1,), 7), ((2,), 6)),
                       (((0,), 7), ((0, 1), 5), ((1,), 7), ((2,), 6), ((4,), 1)),
                       (((0,), 7), ((0, 1), 5), ((0, 4), 1), ((1,), 7), ((2,), 6))]:
            self.assertEqual(sum(paid for inside, paid in prices), 26)
            self.assert_wrong((self.CHOICE, prices))

    def test_one_more_or_less_than_the_choice_costs(self):
        for at, (inside, paid) in enumerate(self.PRICES):
            for other in (paid - 1, paid + 1):
                self.assert_wrong((self.CHOICE, self.PRICES[:at] + ((inside, other),) + self.PRICES[at + 1:]))
            self.assert_wrong((self.CHOICE, self.PRICES[:at] + self.PRICES[at + 1:]))
        self.assert_wrong((self.CHOICE, ()))

    def test_all_small_prices(self):
        book = leafed("ab", "abc", "b")
        choice, told = least_pack(book, (0, 1), (2,))
        cost = price_of(book, choice)
        rights = 0
        for paid in itertools.product(range(cost + 1), repeat=3):
            prices = tuple(pair for pair in zip([(0,), (0, 1), (1,)], paid) if pair[1])
            due = sum(paid) == cost and are_right_prices(book, (0, 1), (2,), prices, OVER)
            self.assertIs(right_pack(book, (0, 1), (2,), (choice, prices)), due)
            rights += due
        self.assertGreater(rights, 0)

    def test_over(self):
        for over in (0, 1, 3, 1000):
            self.assert_wrong(self.RIGHT, over=over)
        self.assertIs(self.right(self.RIGHT, over=2), True)

    def test_lists_for_tuples(self):
        choice, prices = self.RIGHT
        self.assert_wrong([choice, prices])
        self.assert_wrong((list(choice), prices))
        self.assert_wrong((choice, list(prices)))
        for at, triple in enumerate(choice):
            self.assert_wrong_choice(self.put(at, list(triple)))
        for at, (inside, paid) in enumerate(prices):
            for pair in [[inside, paid], (list(inside), paid)]:
                self.assert_wrong((choice, prices[:at] + (pair,) + prices[at + 1:]))

    def test_too_long_or_too_short(self):
        choice, prices = self.RIGHT
        for thing in [(), (choice,), (choice, prices, ()), (prices, choice), choice, prices]:
            self.assert_wrong(thing)
        for at, triple in enumerate(choice):
            for other in [triple[:2], triple + ((),), (), triple[1:]]:
                self.assert_wrong_choice(self.put(at, other))
        for at, pair in enumerate(prices):
            for other in [pair[:1], pair + (1,), (), pair[::-1]]:
                self.assert_wrong((choice, prices[:at] + (other,) + prices[at + 1:]))

    def test_truths_for_ints(self):
        self.assert_wrong_choice(self.put(0, (False, None, ())))
        self.assert_wrong_choice(self.put(1, (True, 0, self.TO_1)))
        self.assert_wrong_choice(self.put(1, (1, False, self.TO_1)))
        self.assert_wrong((self.CHOICE, (((False,), 7),) + self.PRICES[1:]))
        self.assert_wrong((self.CHOICE, self.PRICES[:1] + (((0, True), 5),) + self.PRICES[2:]))
        book = leafed("a")
        self.assertIs(right_pack(book, (0,), (), (((0, None, ()),), (((0,), 2),))), True)
        self.assert_wrong((self.CHOICE, self.PRICES[:3] + (((2,), 6), ((2, 4), True))))

    def test_anything(self):
        choice, prices = self.RIGHT
        for thing in odd_things():
            for pack in [thing, (thing, prices), (choice, thing), (thing, thing), (choice + (thing,), prices),
                         (choice, prices + (thing,)), (choice, (thing,) + prices)]:
                self.assert_wrong(pack)
            for at, (leaf, base, script) in enumerate(choice):
                for triple in [thing, (thing, base, script), (leaf, thing, script), (leaf, base, thing)]:
                    if triple != (leaf, base, script):
                        self.assert_wrong_choice(self.put(at, triple))
            for at, (inside, paid) in enumerate(prices):
                for pair in [thing, (thing, paid), (inside, thing), ((thing,), paid), (inside + (thing,), paid)]:
                    self.assert_wrong((choice, prices[:at] + (pair,) + prices[at + 1:]))


if __name__ == "__main__":
    unittest.main()
