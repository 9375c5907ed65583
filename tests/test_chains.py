"""Point 10: covers."""

import itertools
import random
import unittest

from samples import ladder, naive_below, odd_things, random_shape, shapes_of, strands

from fewasks.chains import cover, right_cover

# 7 is over 4 and 6, both of them over 1; 9 is by itself.
DIAMOND = ((1, 4, 6, 7, 9), ((4, 1), (6, 1), (7, 4), (7, 6)))
RIGHT = (((1, 4, 7), (6,), (9,)), (4, 6, 9))


def is_cover(shape, chains, apart):
    """Point 10, word for word, of tuples of ints."""
    under = {version: naive_below(shape, version) for version in shape[0]}
    standing = [version for chain in chains for version in chain]
    firsts = [chain[0] for chain in chains if chain]
    return (len(firsts) == len(chains)
            and all(low < high for low, high in zip(firsts, firsts[1:]))
            and sorted(standing) == list(shape[0])
            and all(low in under[high] for chain in chains for low, high in zip(chain, chain[1:]))
            and all(low < high for low, high in zip(apart, apart[1:]))
            and len(apart) == len(chains)
            and all(version in under for version in apart)
            and not any(low in under[high] for low in apart for high in apart))


def partitions(things):
    """Every way to put the things into heaps."""
    if not things:
        yield []
        return
    for heaps in partitions(things[1:]):
        yield [[things[0]], *heaps]
        for at in range(len(heaps)):
            yield heaps[:at] + [[things[0], *heaps[at]]] + heaps[at + 1:]


class RightCover(unittest.TestCase):
    def assert_wrong(self, thing, shape=DIAMOND):
        with self.subTest(str(thing)[:60]):
            self.assertIs(right_cover(shape, thing), False)

    def test_right_ones(self):
        for thing in [RIGHT, (((1, 6, 7), (4,), (9,)), (4, 6, 9)), (((1, 4), (6, 7), (9,)), (4, 6, 9)),
                      (((1, 6), (4, 7), (9,)), (4, 6, 9))]:
            self.assertIs(right_cover(DIAMOND, thing), True)

    def test_of_no_versions(self):
        self.assertIs(right_cover(((), ()), ((), ())), True)
        for thing in [(((),), ()), ((), (0,)), (((0,),), (0,)), ((), [])]:
            self.assert_wrong(thing, ((), ()))
        self.assert_wrong(((), ()))

    def test_a_pair(self):
        chains, apart = RIGHT
        for thing in [(chains,), (chains, apart, ()), (chains, apart, apart), [chains, apart], (apart, chains), chains, ()]:
            self.assert_wrong(thing)

    def test_lists_in_place_of_tuples(self):
        chains, apart = RIGHT
        self.assert_wrong((list(chains), apart))
        self.assert_wrong((chains, list(apart)))
        self.assert_wrong((([1, 4, 7], (6,), (9,)), apart))
        self.assert_wrong((((1, 4, 7), (6,), [9]), apart))

    def test_chains_are_not_empty(self):
        self.assert_wrong(((*RIGHT[0], ()), RIGHT[1]))
        self.assert_wrong((((), *RIGHT[0]), (1, 4, 6, 9)))
        self.assert_wrong((((), *RIGHT[0]), RIGHT[1]))

    def test_chains_rise(self):
        for chain in [(7, 4, 1), (1, 7, 4), (4, 1, 7), (1, 4, 4, 7), (1, 1, 4, 7)]:
            self.assert_wrong(((chain, (6,), (9,)), RIGHT[1]))

    def test_each_of_a_chain_is_below_the_next(self):
        self.assert_wrong((((1, 4, 6, 7), (9,)), (4, 9)))
        self.assert_wrong((((1, 4), (6, 7, 9)), (4, 9)))
        self.assert_wrong((((1,), (4, 6), (7, 9)), (4, 6, 9)))

    def test_below_by_several_links(self):
        known = ((0, 1, 2, 3), ((1, 0), (2, 1), (3, 2)))
        self.assertIs(right_cover(known, (((0, 1, 2, 3),), (2,))), True)
        # 1 is below 7 by way of 4 or 6 alone.
        self.assertIs(right_cover(DIAMOND, (((1, 7), (4,), (6,), (9,)), (4, 6, 9))), False)
        bow = ((0, 1, 2, 3, 4), ((2, 0), (2, 1), (3, 2), (4, 2)))
        self.assertIs(right_cover(bow, (((0, 2, 3), (1, 4)), (0, 1))), True)
        self.assertIs(right_cover(bow, (((0, 3), (1, 2, 4)), (3, 4))), True)

    def test_each_version_stands_just_once(self):
        self.assert_wrong((((1, 4, 7), (6,)), (4, 6)))
        self.assert_wrong((((1, 4, 7), (6, 7), (9,)), (4, 6, 9)))
        self.assert_wrong((((1, 4), (6,), (9,)), (4, 6, 9)))
        self.assert_wrong((((1, 4, 7), (6,), (9,), (9,)), (4, 6, 9)))

    def test_only_versions_stand_in_chains(self):
        self.assert_wrong((((1, 4, 7), (6,), (8,), (9,)), (4, 6, 9)))
        self.assert_wrong((((1, 4, 7), (6,), (10,)), (4, 6, 9)))
        self.assert_wrong((((0, 1, 4, 7), (6,), (9,)), (4, 6, 9)))

    def test_first_versions_rise(self):
        self.assert_wrong((((6,), (1, 4, 7), (9,)), (4, 6, 9)))
        self.assert_wrong((((1, 4, 7), (9,), (6,)), (4, 6, 9)))

    def test_apart_rises(self):
        for apart in [(9, 6, 4), (6, 4, 9), (4, 4, 9), (4, 6, 6), (4, 4, 6, 9)]:
            self.assert_wrong((RIGHT[0], apart))

    def test_as_many_apart_as_chains(self):
        for apart in [(), (4,), (4, 6), (4, 9)]:
            self.assert_wrong((RIGHT[0], apart))
        self.assert_wrong((((1, 4), (6,), (7,), (9,)), (4, 6, 9)))

    def test_apart_are_versions(self):
        for apart in [(4, 6, 8), (4, 6, 10), (0, 4, 9), (-1, 4, 6), (2, 3, 5)]:
            self.assert_wrong((RIGHT[0], apart))

    def test_none_apart_is_below_another(self):
        for apart in [(1, 4, 9), (1, 6, 9), (4, 7, 9), (6, 7, 9), (1, 7, 9), (1, 4, 6)]:
            self.assert_wrong((RIGHT[0], apart))

    def test_truths_are_no_versions(self):
        known = ((0, 1), ())
        self.assertIs(right_cover(known, (((0,), (1,)), (0, 1))), True)
        for thing in [(((0,), (True,)), (0, 1)), (((False,), (1,)), (0, 1)), (((0,), (1,)), (0, True)),
                      (((0,), (1,)), (False, 1))]:
            self.assert_wrong(thing, known)

    def test_anything(self):
        chains, apart = RIGHT
        for thing in [*odd_things(), 1]:
            for paper in [thing, (thing, thing), (chains, thing), (thing, apart), ((thing,), apart),
                          ((*chains[:2], thing), apart), (((thing,), *chains[1:]), apart),
                          (((1, 4, thing), (6,), (9,)), apart), (chains, (4, 6, thing)), (chains, (thing,)),
                          (chains, (thing, 6, 9))]:
                self.assert_wrong(paper)

    def test_every_small_shape_with_every_pair(self):
        for known in shapes_of(4):
            aparts = [some for many in range(5) for some in itertools.combinations(range(4), many)]
            for heaps in partitions([0, 1, 2, 3]):
                chains = tuple(sorted(tuple(heap) for heap in heaps))
                for apart in aparts:
                    self.assertIs(right_cover(known, (chains, apart)), is_cover(known, chains, apart))


class Cover(unittest.TestCase):
    def assert_covered(self, known, many=None):
        told = cover(known)
        self.assertTrue(is_cover(known, *told), known)
        self.assertIs(right_cover(known, told), True)
        self.assertEqual(cover(known), told)
        if many is not None:
            self.assertEqual(len(told[0]), many)

    def test_of_no_versions(self):
        self.assertEqual(cover(((), ())), ((), ()))

    def test_kinds_of_values(self):
        self.assertEqual(cover(((5,), ())), (((5,),), (5,)))
        self.assertEqual(cover(((5, 8), ((8, 5),)))[0], ((5, 8),))
        self.assertEqual(cover(((5, 8), ())), (((5,), (8,)), (5, 8)))

    def test_every_small_shape(self):
        for many in range(6):
            for known in shapes_of(many):
                self.assert_covered(known)

    def test_400_versions_in_one_to_six_chains(self):
        for width in range(1, 7):
            told = cover(strands(400, width))
            self.assertIs(right_cover(strands(400, width), told), True)
            self.assertEqual(len(told[0]), width)

    def test_400_versions_apart(self):
        known = (tuple(range(400)), ())
        self.assertEqual(cover(known), (tuple((k,) for k in range(400)), tuple(range(400))))

    def test_each_over_the_two_ahead_of_it(self):
        for many in (30, 45, 60):
            self.assert_covered(ladder(many), 1)
        self.assertIs(right_cover(ladder(400), cover(ladder(400))), True)

    def test_each_over_the_second_and_the_third_ahead_of_it(self):
        for many in (30, 60):
            links = tuple((upper, lower) for upper in range(many) for lower in (upper - 3, upper - 2) if lower >= 0)
            self.assert_covered((tuple(range(many)), links), 2)

    def test_where_the_nearest_first_is_not_the_best(self):
        # 3 alone can take 2 or 0; 4 can take 2 alone, and 5 can take 3 alone.
        self.assert_covered(((0, 1, 2, 3, 4, 5), ((3, 0), (3, 2), (4, 2), (5, 3))), 3)
        crown = tuple((upper, lower) for upper in range(5, 10) for lower in (upper - 5, upper - 6) if lower >= 0)
        self.assert_covered((tuple(range(10)), crown), 5)

    def test_long_rows_of_giving_way(self):
        # Each upper takes the greatest free lower; the last upper has only the greatest one, so that all must move.
        many = 200
        links = [(many + k, lower) for k in range(many - 1) for lower in (many - 2 - k, many - 1 - k)]
        links.append((2 * many - 1, many - 1))
        known = (tuple(range(2 * many)), tuple(sorted(links)))
        told = cover(known)
        self.assertIs(right_cover(known, told), True)
        self.assertEqual(len(told[0]), many)

    def test_random_shapes(self):
        dice = random.Random(5)
        for _ in range(150):
            many = dice.randrange(1, 40)
            self.assert_covered(random_shape(dice, many, dice.randrange(3 * many), dice.choice([2, 4, 8, 40])))

    def test_random_shapes_of_400_versions(self):
        dice = random.Random(6)
        for links, span in [(400, 10), (800, 20), (1500, 60), (2000, 400)]:
            known = random_shape(dice, 400, links, span)
            self.assertIs(right_cover(known, cover(known)), True)


if __name__ == "__main__":
    unittest.main()
