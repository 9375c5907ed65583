"""Points 23 to 26: scripts, what they make and cost, scripts joined, and least scripts with their papers."""

import copy
import itertools
import random
import unittest

from samples import odd_things

from fewasks.differences import PUT, TAKE, done, joined, least, price, right_least
from fewasks.errors import NoScript

BASE = ("a", "b", "c", "d", "e")
LONG = ("x",) * 40
PRICES = [(TAKE, PUT), (0, 0), (0, 1), (1, 0), (1, 1), (2, 1), (5, 2), (1, 1000000), (1000000, 1)]

# No scripts of any base, each by one clause of point 23.
NO_SCRIPTS = [
    [], [("take", 0, 1)], (["take", 0, 1],), (("put", ["x"]),), (["put", ("x",)],), ("take", 0, 1), ("put", ("x",)),
    (("take", 0, 0),), (("take", 0, -1),), (("take", -1, 1),), (("take", -1, 2),), (("put", ()),),
    (("put", ("x" * 41,)),), (("put", ("ok", "x" * 41)),), (("put", ("\n",)),), (("put", ("a\tb",)),),
    (("put", (chr(37),)),), (("put", ("\x7f",)),), (("put", ("\u00e9",)),), (("put", (0,)),), (("put", (None,)),),
    (("put", "x"),), (("put", ("x",), ()),), (("put",),), (("take",),), (("take", 0),), (("take", 0, 1, 1),), ((),),
    (("give", 0, 1),), (("Put", ("x",)),), (("", ("x",)),), ((None, ("x",)),), (("take", ("x",)),), (("put", 0, 1),),
    (("take", 0, True),), (("take", False, 1),), (("take", True, 1),), (("take", "0", 1),), (("take", 0, "1"),),
    (("take", None, 1),), (("take", 0, None),), (("take", (0,), 1),), (None,), (("take", 0, 1), None), ("take",),
    (("put", LONG + ("x",)),), (("put", LONG), ("put", ("x",))), (("take", 0, 41),), (("take", 0, 1), ("put", LONG)),
    (("take", 0, 10 ** 59),), (("take", 0, 1),) * 41, (("put", ("x",)), ("take", 0, 20), ("put", LONG[:20])),
]


def all_scripts(base, rows):
    """Every script that makes the rows of the base."""
    if not rows:
        yield ()
    for many in range(1, len(rows) + 1):
        first = [("put", rows[:many])]
        first += [("take", at, many) for at in range(len(base)) if base[at:at + many] == rows[:many]]
        for rest in all_scripts(base, rows[many:]):
            for piece in first:
                yield (piece, *rest)


def is_least_paper(base, rows, script, distances, take, put):
    """Point 26, word for word, of a script and a tuple of ints."""
    if script not in all_scripts(base, rows):
        return False
    if len(distances) != len(rows) + 1 or distances[0] != 0 or distances[-1] != price(script, take=take, put=put):
        return False
    stands = [base[at:at + many] for at in range(len(base)) for many in range(1, len(base) - at + 1)]
    for j in range(1, len(rows) + 1):
        if distances[j] > distances[j - 1] + put:
            return False
        if any(rows[i:j] in stands and distances[j] > distances[i] + take for i in range(j)):
            return False
    return True


def small_rows(signs, most):
    return [rows for many in range(most + 1) for rows in itertools.product(signs, repeat=many)]


def random_script(dice, many_base, most):
    """A right script over a base of so many rows."""
    pieces, left = [], dice.randrange(most + 1)
    while left > 0:
        if dice.random() < 0.6 and many_base:
            begin = dice.randrange(many_base)
            many = min(left, dice.randrange(1, many_base - begin + 1))
            pieces.append(("take", begin, many))
        else:
            many = min(left, dice.randrange(1, 4))
            pieces.append(("put", tuple(dice.choice("pqr") for _ in range(many))))
        left -= many
    return tuple(pieces)


class Done(unittest.TestCase):
    def test_no_rows(self):
        for base in [(), ("a",), BASE, LONG]:
            self.assertEqual(done(base, ()), ())
        self.assertEqual(price(()), 0)

    def test_takes(self):
        for script, rows in [((("take", 0, 1),), ("a",)), ((("take", 0, 5),), BASE), ((("take", 4, 1),), ("e",)),
                             ((("take", 1, 3),), ("b", "c", "d")), ((("take", 0, 2), ("take", 3, 2)), tuple("abde")),
                             ((("take", 3, 2), ("take", 0, 2)), tuple("deab"))]:
            self.assertEqual(done(BASE, script), rows)

    def test_several_takes_of_the_same_rows(self):
        self.assertEqual(done(BASE, (("take", 1, 2), ("take", 1, 2), ("take", 2, 1))), tuple("bcbcc"))

    def test_puts(self):
        self.assertEqual(done((), (("put", ("x", "")),)), ("x", ""))
        self.assertEqual(done(BASE, (("put", ("x",)), ("take", 0, 1), ("put", ("y", "z")))), tuple("xayz"))
        self.assertEqual(done(BASE, (("put", ("x",)), ("put", ("x",)))), ("x", "x"))
        self.assertEqual(done(BASE, (("put", ("~" * 40, " ")),)), ("~" * 40, " "))

    def test_forty_rows_and_one_more(self):
        for script in [(("put", LONG),), (("take", 0, 40),), (("take", 0, 20), ("put", LONG[:20])), (("take", 0, 1),) * 40,
                       (("put", ("x",)),) * 40]:
            self.assertEqual(done(LONG, script), LONG)
            for more in [("put", ("x",)), ("take", 0, 1)]:
                for longer in [script + (more,), (more,) + script]:
                    self.assertRaises(NoScript, done, LONG, longer)
                    self.assertRaises(NoScript, price, longer)

    def test_a_take_beyond_the_base(self):
        for base, script in [((), (("take", 0, 1),)), (BASE, (("take", 0, 6),)), (BASE, (("take", 5, 1),)),
                             (BASE, (("take", 4, 2),)), (BASE, (("take", 0, 5), ("take", 2, 4))),
                             (BASE, (("take", 10 ** 59, 1),)), (BASE, (("put", ("x",)), ("take", 1, 5)))]:
            with self.subTest(script):
                self.assertRaises(NoScript, done, base, script)
                self.assertEqual(price(script), sum(TAKE if piece[0] == "take" else PUT for piece in script))

    def test_no_scripts(self):
        for thing in NO_SCRIPTS:
            for base in [(), BASE, LONG]:
                with self.subTest(str(thing)[:70]):
                    self.assertRaises(NoScript, done, base, thing)
            self.assertRaises(NoScript, price, thing)
            self.assertRaises(NoScript, price, thing, take=0, put=0)

    def test_anything(self):
        texts = ("", "a", "0", "leaf", "tree", "version")
        for thing in odd_things():
            scripts = [(thing,), (("take", 0, 1), thing), (("take", 0, thing),), ((thing, 0, 1),), ((thing, ("x",)),),
                       (("take", 0, 1, thing),), (("put", ("x",), thing),)]
            if thing != ():
                scripts.append(thing)
            if thing not in [(text,) for text in texts]:
                scripts.append((("put", thing),))
            if thing not in texts:
                scripts += [(("put", (thing,)),), (("put", ("x", thing)),)]
            for script in scripts:
                with self.subTest(str(script)[:70]):
                    self.assertRaises(NoScript, done, BASE, script)
                    self.assertRaises(NoScript, price, script)
            self.assertRaises(NoScript, done, BASE, (("take", thing, 1),))
            # Where there is no base, a take may begin anywhere from 0 on.
            if thing not in (10 ** 60 - 1, 10 ** 18 + 1):
                self.assertRaises(NoScript, price, (("take", thing, 1),))

    def test_nothing_is_changed(self):
        thing = [["take", 0, {"a": [1]}]]
        before = copy.deepcopy(thing)
        self.assertRaises(NoScript, done, BASE, thing)
        self.assertEqual(thing, before)


class Price(unittest.TestCase):
    SCRIPT = (("take", 0, 5), ("put", ("x", "y")), ("take", 1, 1), ("put", ("z",)))

    def test_constants(self):
        self.assertEqual((TAKE, PUT), (3, 2))

    def test_left_out_and_handed_in(self):
        self.assertEqual(price(self.SCRIPT), 2 * 3 + 3 * 2)
        self.assertEqual(price(self.SCRIPT, take=7), 2 * 7 + 3 * 2)
        self.assertEqual(price(self.SCRIPT, put=7), 2 * 3 + 3 * 7)
        self.assertEqual(price(self.SCRIPT, take=5, put=11), 2 * 5 + 3 * 11)
        self.assertEqual(price(self.SCRIPT, put=11, take=5), 2 * 5 + 3 * 11)
        self.assertEqual(price(self.SCRIPT, take=0, put=0), 0)
        self.assertEqual(price(self.SCRIPT, take=1000000, put=1000000), 5000000)

    def test_a_take_costs_the_same_however_many_rows(self):
        for many in (1, 2, 40):
            self.assertEqual(price((("take", 0, many),)), TAKE)
            self.assertEqual(price((("put", LONG[:many]),)), PUT * many)


class Joined(unittest.TestCase):
    ONE = (("take", 1, 3), ("put", ("x", "y", "z")), ("take", 0, 2))

    def assert_joined(self, other, script):
        self.assertEqual(joined(BASE, self.ONE, other), script)
        self.assertEqual(done(BASE, script), done(done(BASE, self.ONE), other))

    def test_what_one_makes(self):
        self.assertEqual(done(BASE, self.ONE), tuple("bcdxyzab"))

    def test_nothing(self):
        self.assert_joined((), ())
        self.assertEqual(joined(BASE, (), (("put", ("p",)),)), (("put", ("p",)),))
        self.assertEqual(joined((), (), ()), ())

    def test_puts_stand_as_they_are(self):
        self.assert_joined((("put", ("p",)), ("put", ("p", "q"))), (("put", ("p",)), ("put", ("p", "q"))))

    def test_in_one_piece(self):
        self.assert_joined((("take", 0, 3),), (("take", 1, 3),))
        self.assert_joined((("take", 3, 3),), (("put", ("x", "y", "z")),))
        self.assert_joined((("take", 6, 2),), (("take", 0, 2),))

    def test_cut_at_the_beginning_the_end_and_both(self):
        self.assert_joined((("take", 1, 2),), (("take", 2, 2),))
        self.assert_joined((("take", 0, 2),), (("take", 1, 2),))
        self.assert_joined((("take", 1, 1),), (("take", 2, 1),))
        self.assert_joined((("take", 4, 2),), (("put", ("y", "z")),))
        self.assert_joined((("take", 3, 2),), (("put", ("x", "y")),))
        self.assert_joined((("take", 4, 1),), (("put", ("y",)),))

    def test_over_two_and_many_pieces(self):
        self.assert_joined((("take", 2, 2),), (("take", 3, 1), ("put", ("x",))))
        self.assert_joined((("take", 5, 2),), (("put", ("z",)), ("take", 0, 1)))
        self.assert_joined((("take", 0, 8),), self.ONE)
        self.assert_joined((("take", 2, 5),), (("take", 3, 1), ("put", ("x", "y", "z")), ("take", 0, 1)))

    def test_several_takes_and_puts(self):
        self.assert_joined((("take", 7, 1), ("put", ("p",)), ("take", 2, 2), ("take", 2, 2)),
                           (("take", 1, 1), ("put", ("p",)), ("take", 3, 1), ("put", ("x",)), ("take", 3, 1), ("put", ("x",))))

    def test_none_are_put_together(self):
        one = (("take", 0, 2), ("take", 2, 2), ("put", ("x",)), ("put", ("y",)))
        self.assertEqual(joined(BASE, one, (("take", 1, 4),)), (("take", 1, 1), ("take", 2, 2), ("put", ("x",))))
        self.assertEqual(joined(BASE, one, (("take", 4, 2),)), (("put", ("x",)), ("put", ("y",))))
        self.assertEqual(joined(BASE, one, (("take", 0, 1), ("take", 1, 1))), (("take", 0, 1), ("take", 1, 1)))
        self.assertEqual(joined(BASE, one, (("put", ("p",)), ("take", 4, 1))), (("put", ("p",)), ("put", ("x",))))

    def test_no_right_script_over_its_own_base(self):
        self.assertRaises(NoScript, joined, BASE, (("take", 4, 2),), ())
        self.assertRaises(NoScript, joined, BASE, self.ONE, (("take", 7, 2),))
        # Right over what one makes, though not over the base, and the other way about.
        self.assertEqual(joined(BASE, self.ONE, (("take", 6, 2),)), (("take", 0, 2),))
        self.assertRaises(NoScript, joined, BASE, (("take", 0, 1),), (("take", 1, 1),))
        for thing in NO_SCRIPTS:
            self.assertRaises(NoScript, joined, BASE, thing, ())
            self.assertRaises(NoScript, joined, BASE, thing, thing)
            self.assertRaises(NoScript, joined, BASE, self.ONE, thing)

    def test_anything(self):
        for thing in odd_things():
            if thing != ():
                self.assertRaises(NoScript, joined, BASE, thing, ())
                self.assertRaises(NoScript, joined, BASE, self.ONE, thing)
                self.assertRaises(NoScript, joined, LONG, (("put", LONG),), thing)

    def test_three_either_way_about(self):
        dice = random.Random(25)
        for _ in range(400):
            base = tuple(dice.choice("abc") for _ in range(dice.randrange(6)))
            one = random_script(dice, len(base), dice.choice([3, 8, 40]))
            made = done(base, one)
            two = random_script(dice, len(made), dice.choice([3, 8, 40]))
            both = done(made, two)
            three = random_script(dice, len(both), 8)
            self.assertEqual(done(base, joined(base, one, two)), both)
            self.assertEqual(joined(base, joined(base, one, two), three), joined(base, one, joined(made, two, three)))


class Least(unittest.TestCase):
    def assert_least(self, base, rows, take, put):
        script, distances = told = least(base, rows, take=take, put=put)
        self.assertEqual(done(base, script), rows)
        self.assertEqual(distances, tuple(
            min(price(some, take=take, put=put) for some in all_scripts(base, rows[:many]))
            for many in range(len(rows) + 1)))
        self.assertEqual(price(script, take=take, put=put), distances[-1])
        self.assertIs(right_least(base, rows, told, take=take, put=put), True)
        self.assertEqual(least(base, rows, take=take, put=put), told)

    def test_kinds_of_values(self):
        self.assertEqual(least((), ()), ((), (0,)))
        self.assertEqual(least(BASE, ()), ((), (0,)))
        self.assertEqual(least((), ("x",)), ((("put", ("x",)),), (0, 2)))
        self.assertEqual(least(BASE, BASE), ((("take", 0, 5),), (0, 2, 3, 3, 3, 3)))

    def test_puts_that_follow_one_another_are_told_as_one(self):
        self.assertEqual(least(BASE, tuple("xyabczw"))[0], (("put", ("x", "y")), ("take", 0, 3), ("put", ("z", "w"))))

    def test_one_text(self):
        for base, rows in itertools.product(small_rows("a", 5), small_rows("a", 5)):
            for take, put in PRICES:
                self.assert_least(base, rows, take, put)

    def test_two_texts(self):
        for base, rows in itertools.product(small_rows("ab", 3), small_rows("ab", 4)):
            for take, put in PRICES[:5]:
                self.assert_least(base, rows, take, put)

    def test_random_ones(self):
        dice = random.Random(26)
        for _ in range(60):
            base = tuple(dice.choice("abc") for _ in range(dice.randrange(9)))
            rows = tuple(dice.choice("abcd") for _ in range(dice.randrange(7)))
            self.assert_least(base, rows, *dice.choice(PRICES))

    def test_take_and_put_left_out(self):
        rows = ("a", "x", "b", "c", "d", "e")
        for handed, take, put in [({}, 3, 2), ({"take": 1}, 1, 2), ({"put": 1}, 3, 1), ({"put": 9, "take": 5}, 5, 9)]:
            self.assertEqual(least(BASE, rows, **handed), least(BASE, rows, take=take, put=put))
            told = least(BASE, rows, **handed)
            self.assertIs(right_least(BASE, rows, told, **handed), True)
            self.assertIs(right_least(BASE, rows, told, take=take, put=put), True)
            self.assertIs(right_least(BASE, rows, told, take=take + 1, put=put), False)

    def test_forty_rows_over_forty(self):
        dice = random.Random(40)
        bases = [LONG, tuple(str(k) for k in range(40)), tuple("ab" * 20), tuple(dice.choice("abc") for _ in range(40))]
        for base in bases:
            for rows in [base, base[::-1], LONG, base[1:] + base[:1], base[20:] + ("new",) * 3 + base[:17]]:
                for take, put in PRICES:
                    script, distances = told = least(base, rows, take=take, put=put)
                    self.assertEqual(done(base, script), rows)
                    self.assertEqual(len(distances), 41)
                    self.assertIs(right_least(base, rows, told, take=take, put=put), True)
        self.assertEqual(least(LONG, LONG), ((("take", 0, 40),), (0, 2) + (3,) * 39))


class RightLeast(unittest.TestCase):
    ROWS = ("b", "c", "d", "x", "a", "b")
    RIGHT = ((("take", 1, 3), ("put", ("x",)), ("take", 0, 2)), (0, 2, 3, 3, 5, 7, 8))

    def assert_wrong(self, thing, **handed):
        with self.subTest(str(thing)[:70]):
            self.assertIs(right_least(BASE, self.ROWS, thing, **handed), False)

    def with_number(self, at, number):
        return (self.RIGHT[0], self.RIGHT[1][:at] + (number,) + self.RIGHT[1][at + 1:])

    def test_the_right_one(self):
        self.assertEqual(least(BASE, self.ROWS), self.RIGHT)
        self.assertIs(right_least(BASE, self.ROWS, self.RIGHT), True)

    def test_lesser_distances_in_the_middle(self):
        for distances, due in [((0, 2, 3, 3, 5, 6, 8), True), ((0, 1, 3, 3, 5, 7, 8), True),
                               ((0, 1, 2, 3, 5, 6, 8), True), ((0, 0, 1, 3, 5, 6, 8), True),
                               ((0, 0, 3, 3, 5, 6, 8), False), ((0, -1, 1, 3, 5, 6, 8), False),
                               ((0, 2, 3, 3, 4, 6, 8), False), ((0, 2, 3, 3, 5, 5, 8), False)]:
            self.assertIs(is_least_paper(BASE, self.ROWS, self.RIGHT[0], distances, 3, 2), due)
            self.assertIs(right_least(BASE, self.ROWS, (self.RIGHT[0], distances)), due)
        rows = ("x", "y", "z")
        for distances, due in [((0, 2, 4, 6), True), ((0, 2, 5, 6), False), ((0, 1, 4, 6), False), ((0, 3, 4, 6), False)]:
            self.assertIs(right_least(BASE, rows, ((("put", rows),), distances)), due)

    def test_all_numbers_at_each_place(self):
        for base, rows in itertools.product(small_rows("ab", 2), small_rows("ab", 3)):
            for take, put in [(3, 2), (1, 1), (0, 1)]:
                script, distances = least(base, rows, take=take, put=put)
                for numbers in itertools.product(range(-1, 5), repeat=len(rows)):
                    thing = (script, (0, *numbers))
                    self.assertIs(right_least(base, rows, thing, take=take, put=put),
                                  is_least_paper(base, rows, *thing, take, put))

    def test_every_script(self):
        base, rows = ("a", "b", "a"), ("a", "b", "b", "a")
        for take, put in PRICES:
            distances = least(base, rows, take=take, put=put)[1]
            dear = 0
            for script in all_scripts(base, rows):
                cost = price(script, take=take, put=put)
                self.assertIs(right_least(base, rows, (script, distances), take=take, put=put), cost == distances[-1])
                # No distances show a dearer script to be least.
                if cost > distances[-1]:
                    dear += 1
                    for numbers in [distances[:-1] + (cost,), tuple(min(cost, put * at) for at in range(4)) + (cost,)]:
                        self.assertIs(right_least(base, rows, (script, numbers), take=take, put=put), False)
            self.assertEqual(dear > 0, (take, put) != (0, 0))

    def test_a_script_that_does_not_make_the_rows(self):
        script, distances = self.RIGHT
        for other in [(), script[:2], script[1:], script[::-1], (("take", 1, 3), ("put", ("y",)), ("take", 0, 2)),
                      (("take", 0, 3), ("put", ("x",)), ("take", 0, 2)), script + (("put", ("x",)),)]:
            self.assert_wrong((other, distances))

    def test_no_right_script(self):
        for other in [*NO_SCRIPTS, (("take", 1, 5),), (("take", 5, 1),)]:
            self.assert_wrong((other, self.RIGHT[1]))
            self.assertIs(right_least((), (), (other, (0,))), False)

    def test_another_script_of_the_same_price(self):
        self.assertIs(right_least(BASE, ("a", "x"), ((("put", ("a",)), ("put", ("x",))), (0, 2, 4))), True)
        self.assertIs(right_least(BASE, ("a", "x"), ((("put", ("a", "x")),), (0, 2, 4))), True)
        self.assertIs(right_least(BASE, ("a", "x"), ((("take", 0, 1), ("put", ("x",))), (0, 2, 4))), False)
        self.assertIs(right_least(BASE, ("a", "x"), ((("take", 0, 1), ("put", ("x",))), (0, 3, 5))), False)

    def test_a_number_more_or_less(self):
        script, distances = self.RIGHT
        for other in [distances[:-1], distances[1:], distances + (8,), (0,) + distances, (), (0,), (0, 8)]:
            self.assert_wrong((script, other))

    def test_the_first_is_nought(self):
        for number in (-1, 1):
            self.assert_wrong(self.with_number(0, number))
        self.assertIs(right_least((), (), ((), (1,))), False)

    def test_the_last_is_what_the_script_costs(self):
        for number in (7, 9, -8, 0):
            self.assert_wrong(self.with_number(6, number))

    def test_no_more_than_a_put_or_a_take_lets(self):
        # One more than a put lets, than a take of one row and than a take of three.
        self.assert_wrong(self.with_number(1, 3))
        self.assert_wrong(self.with_number(2, 4))
        self.assert_wrong(self.with_number(3, 4))
        self.assert_wrong(self.with_number(4, 6))

    def test_other_prices(self):
        self.assert_wrong(self.RIGHT, take=2)
        self.assert_wrong(self.RIGHT, put=1)
        self.assert_wrong(self.RIGHT, take=4, put=2)
        self.assert_wrong(self.RIGHT, put=3)

    def test_lists_for_tuples(self):
        script, distances = self.RIGHT
        self.assert_wrong([script, distances])
        self.assert_wrong((script, list(distances)))
        self.assert_wrong((list(script), distances))
        self.assert_wrong((tuple(list(piece) for piece in script), distances))

    def test_pairs_too_long_or_too_short(self):
        script, distances = self.RIGHT
        for thing in [(script,), (script, distances, ()), (script, *distances), (distances, script), script, distances]:
            self.assert_wrong(thing)

    def test_truths_for_ints(self):
        self.assert_wrong(self.with_number(0, False))
        self.assertIs(right_least(("a",), ("a",), ((("take", 0, 1),), (0, 1)), take=1), True)
        for thing in [((("take", 0, 1),), (0, True)), ((("take", 0, True),), (0, 1)), ((("take", False, 1),), (0, 1))]:
            self.assertIs(right_least(("a",), ("a",), thing, take=1), False)

    def test_anything(self):
        script, distances = self.RIGHT
        for thing in odd_things():
            self.assert_wrong(thing)
            self.assert_wrong((thing, distances))
            self.assert_wrong((script, thing))
            self.assert_wrong((thing, thing))
            self.assert_wrong((script + (thing,), distances))
            for at in range(7):
                if thing != -1:
                    self.assert_wrong(self.with_number(at, thing))


if __name__ == "__main__":
    unittest.main()
