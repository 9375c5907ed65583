"""Points 14 and 15: what must be asked, and papers for answers."""

import copy
import itertools
import random
import unittest

from samples import ladder, naive_below, odd_things, random_shape, shapes_of, strands

from fewasks.asks import settled
from fewasks.chains import cover, right_cover
from fewasks.errors import Contrary, Unsettled
from fewasks.papers import must_ask, paper, right_paper

# 7 is over 4 and 6, both of them over 1; 9 is by itself.
DIAMOND = ((1, 4, 6, 7, 9), ((4, 1), (6, 1), (7, 4), (7, 6)))
HELD_4 = ((4, True), (6, False), (9, True))
RIGHT_4 = (("held", (4, 1)), ("held", (4,)), ("lacks", (6,)), ("lacks", (7, 6)), ("held", (9,)))
CHAIN = ((2, 3, 5, 8), ((3, 2), (5, 3), (8, 5)))
HELD_3 = ((3, True), (5, False))
RIGHT_3 = (("held", (3, 2)), ("held", (3,)), ("lacks", (5,)), ("lacks", (8, 5)))


def is_paper(shape, answers, pairs):
    """Point 15, word for word, of pairs of a word and a tuple of ints; the answers are not contrary."""
    if len(pairs) != len(shape[0]):
        return False
    for version, (word, walk) in zip(shape[0], pairs):
        if not walk or any(step not in shape[1] for step in zip(walk, walk[1:])):
            return False
        if not set(walk) <= set(shape[0]):
            return False
        if word == "held" and not ((walk[0], True) in answers and walk[-1] == version):
            return False
        if word == "lacks" and not (walk[0] == version and (walk[-1], False) in answers):
            return False
        if word not in ("held", "lacks"):
            return False
    return True


def all_walks(shape):
    """Every walk down of a small shape."""
    walks = [(version,) for version in shape[0]]
    for walk in walks:
        walks.extend(walk + (lower,) for upper, lower in shape[1] if upper == walk[-1])
    return walks


def full_answers(shape, held):
    return tuple((version, version in held) for version in shape[0])


def holdings(shape):
    """All sets of versions that have with each version all below it."""
    for truths in itertools.product((True, False), repeat=len(shape[0])):
        held = {version for version, truth in zip(shape[0], truths) if truth}
        if all(naive_below(shape, version) <= held for version in held):
            yield held


class RightPaper(unittest.TestCase):
    def assert_wrong(self, thing, shape=DIAMOND, answers=HELD_4):
        with self.subTest(str(thing)[:70]):
            self.assertIs(right_paper(shape, answers, thing), False)

    def put(self, at, pair, right=RIGHT_4):
        return right[:at] + (pair,) + right[at + 1:]

    def test_right_ones(self):
        self.assertIs(right_paper(DIAMOND, HELD_4, RIGHT_4), True)
        self.assertIs(right_paper(DIAMOND, HELD_4[::-1], RIGHT_4), True)
        self.assertIs(right_paper(CHAIN, HELD_3, RIGHT_3), True)

    def test_walks_of_one_two_and_many_steps(self):
        answers = ((8, True),)
        pairs = (("held", (8, 5, 3, 2)), ("held", (8, 5, 3)), ("held", (8, 5)), ("held", (8,)))
        self.assertIs(right_paper(CHAIN, answers, pairs), True)
        answers = ((2, False),)
        pairs = (("lacks", (2,)), ("lacks", (3, 2)), ("lacks", (5, 3, 2)), ("lacks", (8, 5, 3, 2)))
        self.assertIs(right_paper(CHAIN, answers, pairs), True)
        long = strands(400, 1)
        pairs = tuple(("held", tuple(range(399, version - 1, -1))) for version in range(400))
        self.assertIs(right_paper(long, ((399, True),), pairs), True)
        self.assertIs(right_paper(long, ((399, True),), pairs[:7] + (("held", (399, *range(397, 6, -1))),) + pairs[8:]), False)

    def test_a_walk_that_is_longer_than_it_need_be(self):
        answers = ((8, True), (5, True), (2, True))
        pairs = (("held", (8, 5, 3, 2)), ("held", (8, 5, 3)), ("held", (8, 5)), ("held", (8,)))
        self.assertIs(right_paper(CHAIN, answers, pairs), True)
        short = (("held", (2,)), ("held", (5, 3)), ("held", (5,)), ("held", (8,)))
        self.assertIs(right_paper(CHAIN, answers, short), True)
        both = ((0, 1, 2), ((1, 0), (2, 0), (2, 1)))
        for walk in [(2, 0), (2, 1, 0)]:
            self.assertIs(right_paper(both, ((0, False),), (("lacks", (0,)), ("lacks", (1, 0)), ("lacks", walk))), True)

    def test_either_of_two_walks(self):
        for middle in (4, 6):
            pairs = (("held", (7, middle, 1)), ("held", (7, 4)), ("held", (7, 6)), ("held", (7,)), ("lacks", (9,)))
            self.assertIs(right_paper(DIAMOND, ((7, True), (9, False)), pairs), True)

    def test_of_no_versions(self):
        self.assertIs(right_paper(((), ()), (), ()), True)
        for thing in [[], ((),), RIGHT_4, (("held", ()),), None]:
            self.assert_wrong(thing, ((), ()), ())

    def test_a_pair_more_less_twice_or_out_of_order(self):
        self.assert_wrong(())
        self.assert_wrong(RIGHT_4[:4])
        self.assert_wrong(RIGHT_4[1:])
        self.assert_wrong(RIGHT_4[:2] + RIGHT_4[3:])
        self.assert_wrong(RIGHT_4 + RIGHT_4[4:])
        self.assert_wrong(RIGHT_4 + (("held", (9,)),))
        self.assert_wrong(RIGHT_4[:1] + RIGHT_4)
        self.assert_wrong(self.put(1, RIGHT_4[0]))
        self.assert_wrong(RIGHT_4[::-1])
        self.assert_wrong((RIGHT_4[1], RIGHT_4[0]) + RIGHT_4[2:])

    def test_a_walk_without_versions(self):
        for at, word in [(0, "held"), (2, "lacks")]:
            self.assert_wrong(self.put(at, (word, ())))

    def test_a_step_that_no_link_has(self):
        self.assert_wrong(self.put(0, ("held", (9, 1))))
        self.assert_wrong(self.put(3, ("lacks", (7, 4, 6))))
        self.assert_wrong(self.put(1, ("held", (4, 4))))
        self.assert_wrong(self.put(2, ("lacks", (6, 6))))
        # A link leads down alone, and what is below by two links is not below by one.
        self.assert_wrong((("held", (3, 2)), ("held", (3,)), ("lacks", (5,)), ("lacks", (8, 3, 5))), CHAIN, HELD_3)
        self.assert_wrong((("held", (5, 2)), ("held", (5, 3)), ("held", (5,)), ("lacks", (8,))), CHAIN,
                          ((5, True), (8, False)))
        self.assert_wrong((("held", (3, 5, 3, 2)), *RIGHT_3[1:]), CHAIN, HELD_3)

    def test_from_a_version_that_is_not_answered_true(self):
        self.assert_wrong(self.put(0, ("held", (1,))))
        self.assert_wrong(self.put(0, ("held", (6, 1))))
        self.assert_wrong(self.put(0, ("held", (7, 4, 1))))
        self.assert_wrong((("held", (2,)), *RIGHT_3[1:]), CHAIN, HELD_3)
        self.assert_wrong((("held", (5, 3, 2)), *RIGHT_3[1:]), CHAIN, HELD_3)

    def test_to_a_version_that_is_not_answered_false(self):
        self.assert_wrong(self.put(3, ("lacks", (7,))))
        self.assert_wrong(self.put(3, ("lacks", (7, 4))))
        self.assert_wrong(self.put(3, ("lacks", (7, 6, 1))))
        self.assert_wrong((*RIGHT_3[:3], ("lacks", (8,))), CHAIN, HELD_3)

    def test_the_version_itself_at_its_end(self):
        self.assert_wrong(self.put(0, ("held", (4,))))
        self.assert_wrong(self.put(1, ("held", (9,))))
        self.assert_wrong(self.put(4, ("held", (4,))))
        self.assert_wrong(self.put(3, ("lacks", (6,))))
        self.assert_wrong(self.put(2, ("lacks", (7, 6))))

    def test_the_words_turned_about(self):
        for at, (word, walk) in enumerate(RIGHT_4):
            self.assert_wrong(self.put(at, ({"held": "lacks", "lacks": "held"}[word], walk)))
            self.assert_wrong(self.put(at, (word, walk)[::-1]))
            for other in ["", "has", "Held", "held ", "lack", "left", None, True, ("held",)]:
                self.assert_wrong(self.put(at, (other, walk)))
        for at, (word, walk) in enumerate(RIGHT_4):
            if len(walk) > 1:
                self.assert_wrong(self.put(at, (word, walk[::-1])))

    def test_lists_for_tuples(self):
        self.assert_wrong(list(RIGHT_4))
        for at, (word, walk) in enumerate(RIGHT_4):
            self.assert_wrong(self.put(at, [word, walk]))
            self.assert_wrong(self.put(at, (word, list(walk))))

    def test_pairs_too_long_or_too_short(self):
        for at, (word, walk) in enumerate(RIGHT_4):
            for pair in [(word,), (word, walk, walk), (word, walk, ()), (word, *walk), ()]:
                self.assert_wrong(self.put(at, pair))

    def test_a_truth_for_an_int(self):
        known = ((0, 1), ((1, 0),))
        self.assertIs(right_paper(known, ((1, True),), (("held", (1, 0)), ("held", (1,)))), True)
        for pairs in [(("held", (True, 0)), ("held", (1,))), (("held", (1, False)), ("held", (1,))),
                      (("held", (1, 0)), ("held", (True,)))]:
            self.assert_wrong(pairs, known, ((1, True),))
        self.assertIs(right_paper(known, ((0, False),), (("lacks", (0,)), ("lacks", (1, 0)))), True)
        for pairs in [(("lacks", (False,)), ("lacks", (1, 0))), (("lacks", (0,)), ("lacks", (1, False)))]:
            self.assert_wrong(pairs, known, ((0, False),))

    def test_anything(self):
        for thing in odd_things():
            self.assert_wrong(thing)
            for at, (word, walk) in enumerate(RIGHT_4):
                for pair in [thing, (thing, walk), (word, thing), (word, (thing,)), (word, (thing, *walk)),
                             (word, (*walk, thing))]:
                    self.assert_wrong(self.put(at, pair))

    def test_contrary_answers(self):
        contrary = ((8, True), (2, False))
        for pairs in [(("lacks", (2,)), ("held", (8, 5, 3)), ("held", (8, 5)), ("held", (8,))),
                      (("held", (8, 5, 3, 2)), ("held", (8, 5, 3)), ("held", (8, 5)), ("held", (8,))), (), None]:
            self.assert_wrong(pairs, CHAIN, contrary)
        for thing in odd_things():
            self.assert_wrong(thing, CHAIN, contrary)

    def test_answers_that_leave_something(self):
        for answers in [(), ((4, True),), ((4, True), (6, False))]:
            self.assert_wrong(RIGHT_4, DIAMOND, answers)

    def test_every_small_shape_with_every_pair(self):
        for known in shapes_of(3):
            walks = all_walks(known)
            pairs = [(word, walk) for word in ("held", "lacks") for walk in walks]
            for held in holdings(known):
                answers = full_answers(known, held)
                right = paper(known, answers)
                for at in range(3):
                    for pair in pairs:
                        thing = right[:at] + (pair,) + right[at + 1:]
                        self.assertIs(right_paper(known, answers, thing), is_paper(known, answers, thing))


class Paper(unittest.TestCase):
    def assert_papered(self, known, answers):
        before = copy.deepcopy((known, answers))
        told = paper(known, answers)
        self.assertTrue(is_paper(known, answers, told), (known, answers))
        self.assertIs(right_paper(known, answers, told), True)
        self.assertEqual(paper(known, answers), told)
        self.assertEqual((known, answers), before)
        self.assertIsInstance(told, tuple)

    def test_kinds_of_values(self):
        self.assertEqual(paper(((), ()), ()), ())
        self.assertEqual(paper(CHAIN, HELD_3), RIGHT_3)
        self.assertEqual(paper(DIAMOND, HELD_4), RIGHT_4)

    def test_every_small_shape_with_all_answers(self):
        for known in shapes_of(4):
            for held in holdings(known):
                self.assert_papered(known, full_answers(known, held))

    def test_answers_that_settle_without_answering_all(self):
        for known in shapes_of(3):
            for truths in itertools.product((None, True, False), repeat=3):
                answers = tuple((v, truth) for v, truth in enumerate(truths) if truth is not None)
                try:
                    left = settled(known, answers)[2]
                except Contrary as error:
                    with self.assertRaises(Contrary) as caught:
                        paper(known, answers)
                    self.assertEqual((caught.exception.upper, caught.exception.lower), (error.upper, error.lower))
                    continue
                if left:
                    with self.assertRaises(Unsettled) as caught:
                        paper(known, answers[::-1])
                    self.assertEqual(caught.exception.version, left[0])
                else:
                    self.assert_papered(known, answers)
                    self.assertEqual(paper(known, answers), paper(known, answers[::-1]))

    def test_chains_of_hundreds(self):
        for known in (strands(400, 1), ladder(400)):
            self.assert_papered(known, ((399, True),))
            self.assert_papered(known, ((0, False),))
            self.assert_papered(known, ((199, True), (200, False)))
        self.assert_papered(strands(400, 3), ((399, True), (1, False), (200, True), (203, False)))

    def test_each_over_the_two_ahead_of_it(self):
        for many in (20, 30, 40):
            for held in (0, 1, many // 2, many):
                self.assert_papered(ladder(many), full_answers(ladder(many), set(range(held))))
            self.assert_papered(ladder(many), ((many - 1, True),))
            self.assert_papered(ladder(many), ((0, False),))

    def test_random_shapes(self):
        dice = random.Random(15)
        for _ in range(100):
            many = dice.randrange(1, 40)
            known = random_shape(dice, many, dice.randrange(3 * many), dice.choice([2, 6, 40]))
            held = set()
            for version in dice.sample(known[0], dice.randrange(min(many, 5) + 1)):
                held |= {version} | naive_below(known, version)
            answers = list(full_answers(known, held))
            dice.shuffle(answers)
            self.assert_papered(known, tuple(answers))

    def test_contrary_with_the_least_pair(self):
        for answers, upper, lower in [(((8, True), (2, False)), 8, 2), (((8, True), (3, False), (5, True)), 5, 3),
                                      (((8, True), (2, False), (5, True), (3, False)), 5, 2)]:
            with self.assertRaises(Contrary) as caught:
                paper(CHAIN, answers)
            self.assertEqual((caught.exception.upper, caught.exception.lower), (upper, lower))

    def test_contrary_ahead_of_unsettled(self):
        with self.assertRaises(Contrary) as caught:
            paper(DIAMOND, ((7, True), (6, False)))
        self.assertEqual((caught.exception.upper, caught.exception.lower), (7, 6))

    def test_unsettled_with_the_least_version_left(self):
        for answers, left in [((), 1), (((4, True),), 6), (((9, True),), 1), (((7, True),), 9), (((6, False),), 1),
                              (((1, True), (7, False), (9, False)), 4)]:
            with self.assertRaises(Unsettled) as caught:
                paper(DIAMOND, answers)
            self.assertEqual(caught.exception.version, left)


class MustAsk(unittest.TestCase):
    def assert_must(self, known, some):
        told = must_ask(known, some)
        due = {lower for version in some[1] for lower in naive_below(known, version)}
        self.assertEqual(told, tuple(sorted(due)))
        self.assertEqual(set(told) & set(some[1]), set())
        for version in some[1]:
            answers = tuple((other, other in told) for other in known[0] if other != version)
            self.assertEqual(settled(known, answers)[2], (version,))
        self.assertEqual(must_ask(known, some), told)

    def test_small_ones(self):
        self.assertEqual(must_ask(((), ()), ((), ())), ())
        self.assertEqual(must_ask(((5,), ()), (((5,),), (5,))), ())
        self.assertEqual(must_ask(DIAMOND, (((1, 4, 7), (6,), (9,)), (4, 6, 9))), (1,))

    def test_covers_that_cover_does_not_tell(self):
        for apart, due in [((2,), ()), ((3,), (2,)), ((5,), (2, 3)), ((8,), (2, 3, 5))]:
            some = (((2, 3, 5, 8),), apart)
            self.assertIs(right_cover(CHAIN, some), True)
            self.assertEqual(must_ask(CHAIN, some), due)
            self.assert_must(CHAIN, some)

    def test_all_apart_of_every_small_shape(self):
        for known in shapes_of(4):
            chains, apart = cover(known)
            for some in itertools.combinations(range(4), len(apart)):
                if right_cover(known, (chains, some)):
                    self.assert_must(known, (chains, some))

    def test_covers_that_cover_tells(self):
        dice = random.Random(14)
        for _ in range(60):
            many = dice.randrange(1, 40)
            known = random_shape(dice, many, dice.randrange(3 * many), dice.choice([2, 6, 40]))
            self.assert_must(known, cover(known))

    def test_long_ones(self):
        for known in (strands(400, 1), strands(400, 3), ladder(60)):
            self.assert_must(known, cover(known))
        self.assertEqual(must_ask(ladder(400), ((tuple(range(400)),), (399,))), tuple(range(399)))


if __name__ == "__main__":
    unittest.main()
