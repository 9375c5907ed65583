"""Points 11, 12 and 13: answers, what they settle, and what to ask next."""

import itertools
import random
import unittest

from samples import ladder, naive_below, random_shape, shapes_of, strands

from fewasks.asks import FEW, most_asks, next_asks, settled
from fewasks.chains import cover
from fewasks.errors import Contrary

# 7 is over 4 and 6, both of them over 1; 9 is by itself.
DIAMOND = ((1, 4, 6, 7, 9), ((4, 1), (6, 1), (7, 4), (7, 6)))
CHAIN = ((2, 3, 5, 8), ((3, 2), (5, 3), (8, 5)))


def naive_settled(shape, answers):
    """Points 11 and 12, word for word: the three tuples, or the least contrary pair."""
    under = {version: naive_below(shape, version) for version in shape[0]}
    yes = [version for version, truth in answers if truth]
    no = [version for version, truth in answers if not truth]
    contrary = [(upper, lower) for upper in yes for lower in no if lower in under[upper]]
    if contrary:
        return min(contrary)
    has = [v for v in shape[0] if any(v == upper or v in under[upper] for upper in yes)]
    lacks = [v for v in shape[0] if any(v == lower or lower in under[v] for lower in no)]
    left = [v for v in shape[0] if v not in has and v not in lacks]
    return (tuple(has), tuple(lacks), tuple(left))


def told_by(ask):
    try:
        return ask()
    except Contrary as error:
        return (error.upper, error.lower)


class Settled(unittest.TestCase):
    def test_no_answers(self):
        self.assertEqual(settled(DIAMOND, ()), ((), (), (1, 4, 6, 7, 9)))
        self.assertEqual(settled(((), ()), ()), ((), (), ()))

    def test_held_goes_down_and_lacking_goes_up(self):
        self.assertEqual(settled(CHAIN, ((5, True),)), ((2, 3, 5), (), (8,)))
        self.assertEqual(settled(CHAIN, ((3, False),)), ((), (3, 5, 8), (2,)))
        self.assertEqual(settled(CHAIN, ((2, True), (8, False))), ((2,), (8,), (3, 5)))
        self.assertEqual(settled(DIAMOND, ((4, True),)), ((1, 4), (), (6, 7, 9)))
        self.assertEqual(settled(DIAMOND, ((6, False),)), ((), (6, 7), (1, 4, 9)))

    def test_answers_in_any_order(self):
        answers = ((4, True), (6, False), (9, True))
        for some in itertools.permutations(answers):
            self.assertEqual(settled(DIAMOND, some), ((1, 4, 9), (6, 7), ()))

    def test_all_answered(self):
        answers = ((1, True), (4, False), (6, True), (7, False), (9, False))
        self.assertEqual(settled(DIAMOND, answers), ((1, 6), (4, 7, 9), ()))

    def test_long_chains(self):
        told = settled(strands(400, 1), ((150, True), (250, False)))
        self.assertEqual(told, (tuple(range(151)), tuple(range(250, 400)), tuple(range(151, 250))))
        told = settled(ladder(400), ((150, True), (250, False)))
        self.assertEqual(told, (tuple(range(151)), tuple(range(250, 400)), tuple(range(151, 250))))

    def test_every_small_shape_with_all_answers(self):
        for known in shapes_of(3):
            papers = [cover(known)]
            for truths in itertools.product((None, True, False), repeat=3):
                answers = tuple((v, truth) for v, truth in enumerate(truths) if truth is not None)
                for some in (answers, answers[::-1]):
                    due = naive_settled(known, some)
                    self.assertEqual(told_by(lambda: settled(known, some)), due)
                    if len(due) == 2:
                        self.assertEqual(told_by(lambda: next_asks(known, papers[0], some)), due)

    def test_random_answers(self):
        dice = random.Random(11)
        contrary = 0
        for _ in range(400):
            many = dice.randrange(1, 15)
            known = random_shape(dice, many, dice.randrange(2 * many), 6)
            asked = dice.sample(known[0], dice.randrange(min(many, 6) + 1))
            answers = tuple((version, dice.random() < 0.5) for version in asked)
            due = naive_settled(known, answers)
            contrary += len(due) == 2
            self.assertEqual(told_by(lambda: settled(known, answers)), due)
        self.assertGreater(contrary, 30)


class ContraryAnswers(unittest.TestCase):
    def assert_contrary(self, known, answers, upper, lower):
        for ask in (lambda: settled(known, answers), lambda: next_asks(known, cover(known), answers)):
            with self.assertRaises(Contrary) as caught:
                ask()
            self.assertEqual((caught.exception.upper, caught.exception.lower), (upper, lower))

    def test_one_pair(self):
        self.assert_contrary(CHAIN, ((8, True), (2, False)), 8, 2)
        self.assert_contrary(CHAIN, ((3, False), (5, True)), 5, 3)

    def test_the_least_pair(self):
        self.assert_contrary(CHAIN, ((8, True), (2, False), (5, True), (3, False)), 5, 2)
        self.assert_contrary(CHAIN, ((2, False), (3, False), (5, False), (8, True)), 8, 2)
        self.assert_contrary(CHAIN, ((5, False), (3, False), (8, True)), 8, 3)
        self.assert_contrary(DIAMOND, ((7, True), (6, True), (4, False), (1, False)), 6, 1)
        # 4 has nothing contrary below it, and of what is below 7, 1 is held.
        self.assert_contrary(DIAMOND, ((7, True), (4, True), (6, False), (1, True)), 7, 6)

    def test_upper_counts_ahead_of_lower(self):
        known = ((0, 1, 2, 3), ((2, 1), (3, 0)))
        self.assert_contrary(known, ((0, False), (1, False), (2, True), (3, True)), 2, 1)

    def test_not_contrary(self):
        self.assertEqual(settled(CHAIN, ((2, True), (8, False), (3, True), (5, False))), ((2, 3), (5, 8), ()))
        self.assertEqual(settled(DIAMOND, ((9, True), (1, False))), ((9,), (1, 4, 6, 7), ()))


class NextAsks(unittest.TestCase):
    def test_few_is_4(self):
        self.assertEqual(FEW, 4)

    def test_the_middle_one(self):
        for many in range(1, 12):
            known = strands(many, 1)
            self.assertEqual(next_asks(known, cover(known), ()), (many // 2,))

    def test_one_two_and_three_left(self):
        paper = (((2, 3, 5, 8),), (2,))
        self.assertEqual(next_asks(CHAIN, paper, ((5, True),)), (8,))
        self.assertEqual(next_asks(CHAIN, paper, ((3, True),)), (8,))
        self.assertEqual(next_asks(CHAIN, paper, ((2, True),)), (5,))
        self.assertEqual(next_asks(CHAIN, paper, ((3, False),)), (2,))
        self.assertEqual(next_asks(CHAIN, paper, ((5, False),)), (3,))
        self.assertEqual(next_asks(CHAIN, paper, ((8, False),)), (3,))
        self.assertEqual(next_asks(CHAIN, paper, ((2, True), (8, False))), (5,))

    def test_in_the_order_of_the_cover(self):
        paper = (((1, 6, 7), (4,), (9,)), (4, 6, 9))
        self.assertEqual(next_asks(DIAMOND, paper, ()), (6, 4, 9))
        self.assertEqual(next_asks(DIAMOND, paper, ((6, True),)), (7, 4, 9))
        self.assertEqual(next_asks(DIAMOND, paper, ((7, False),)), (6, 4, 9))
        self.assertEqual(next_asks(DIAMOND, paper, ((7, True),)), (9,))
        self.assertEqual(next_asks(DIAMOND, paper, ((4, False), (6, True))), (9,))

    def test_few(self):
        known = strands(100, 25)
        paper = cover(known)
        whole = tuple(chain[2] for chain in paper[0])
        self.assertEqual(next_asks(known, paper, ()), whole[:4])
        for few in range(1, 21):
            self.assertEqual(next_asks(known, paper, (), few=few), whole[:few])

    def test_few_counts_only_chains_that_have_any_left(self):
        known = strands(100, 25)
        paper = cover(known)
        answers = tuple((chain[-1], True) for chain in paper[0][:7]) + ((paper[0][8][0], False),)
        self.assertEqual(next_asks(known, paper, answers, few=3), tuple(paper[0][k][2] for k in (7, 9, 10)))
        answers = tuple((chain[-1], True) for chain in paper[0][:-2])
        self.assertEqual(next_asks(known, paper, answers, few=3), tuple(chain[2] for chain in paper[0][-2:]))

    def test_nothing_left(self):
        self.assertEqual(next_asks(((), ()), ((), ()), ()), ())
        self.assertEqual(next_asks(CHAIN, cover(CHAIN), ((8, True),)), ())
        self.assertEqual(next_asks(CHAIN, cover(CHAIN), ((2, False),), few=20), ())
        self.assertEqual(next_asks(CHAIN, cover(CHAIN), ((3, True), (5, False)), few=1), ())


class MostAsks(unittest.TestCase):
    def test_of_no_chains(self):
        self.assertEqual(most_asks(((), ())), 0)

    def test_of_one_chain(self):
        for many, most in [(1, 1), (2, 2), (3, 2), (4, 3), (7, 3), (8, 4), (400, 9)]:
            self.assertEqual(most_asks(((tuple(range(many)),), (0,))), most)

    def test_of_several_chains(self):
        self.assertEqual(most_asks((((1, 4, 7), (6,), (9,)), (4, 6, 9))), 4)
        chains = ((0, 7), (1, 8, 9, 10), (2,), (3, 11, 12, 13, 14, 15, 16))
        self.assertEqual(most_asks((chains, (0, 1, 2, 3))), 2 + 3 + 1 + 3)


class ToTheEnd(unittest.TestCase):
    def ask_all(self, known, held, next_few):
        """Goes by next_asks alone, and looks at each row on the way."""
        paper = cover(known)
        answers = ()
        while True:
            few = next_few()
            asks = next_asks(known, paper, answers, few=few)
            self.assertEqual(next_asks(known, paper, answers, few=few), asks)
            left = settled(known, answers)[2]
            self.assertEqual(asks == (), left == ())
            if not asks:
                break
            self.assertLessEqual(len(asks), few)
            self.assertLessEqual(set(asks), set(left))
            answers += tuple((version, version in held) for version in asks)
        asked = [version for version, _ in answers]
        self.assertEqual(len(asked), len(set(asked)))
        self.assertLessEqual(len(asked), most_asks(paper))
        due = (tuple(v for v in known[0] if v in held), tuple(v for v in known[0] if v not in held), ())
        self.assertEqual(settled(known, answers), due)

    def test_chains_of_every_length_and_holding(self):
        for many in range(0, 18):
            for holds in range(many + 1):
                for few in (1, 4):
                    self.ask_all(strands(many, 1), set(range(holds)), lambda: few)

    def test_every_small_shape_with_every_holding(self):
        for known in shapes_of(4):
            for truths in itertools.product((True, False), repeat=4):
                held = {version for version in range(4) if truths[version]}
                if all(naive_below(known, version) <= held for version in held):
                    self.ask_all(known, held, lambda: 2)

    def test_random_shapes_few_changing_from_row_to_row(self):
        dice = random.Random(13)
        for _ in range(120):
            many = dice.randrange(1, 50)
            known = random_shape(dice, many, dice.randrange(2 * many), dice.choice([2, 6, 50]))
            held = set()
            for version in dice.sample(known[0], dice.randrange(min(many, 5) + 1)):
                held |= {version} | naive_below(known, version)
            self.ask_all(known, held, lambda: dice.randrange(1, 21))

    def test_400_versions(self):
        for width in (1, 3, 6):
            held = {version for version in range(400) if version < 37 * (version % width + 1)}
            self.ask_all(strands(400, width), held, lambda: 4)
        self.ask_all(ladder(400), set(range(123)), lambda: 1)


if __name__ == "__main__":
    unittest.main()
