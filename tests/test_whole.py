"""Points 1 and 3: what is promised over the whole program, on many small towns."""

import random
import unittest

from samples import random_book, versions_of

from fewasks.asker import Asker
from fewasks.asks import most_asks
from fewasks.chains import cover
from fewasks.errors import Lack
from fewasks.holding import Holding
from fewasks.notes import row_of, text_of
from fewasks.packrows import row_price
from fewasks.packs import PACK, least_pack
from fewasks.papers import right_paper
from fewasks.reach import ALL
from fewasks.reading import lacks, plain, read
from fewasks.teller import Teller
from fewasks.town import Town


def small_town(dice, **more):
    """A town of two houses, x and y, that hold some of a book; y has the marks a, b and c."""
    town, book = Town(), random_book(dice, **more)
    for name in range(len(book)):
        town.book.named(book.thing(name))
    x, y = town.build("x"), town.build("y")
    for house, share in ((x, dice.choice([0.0, 0.3, 0.7])), (y, dice.choice([0.7, 0.9, 1.0]))):
        for name in range(len(book)):
            if dice.random() < share:
                house.put(name)
    versions = [name for name in versions_of(book) if y.holds(name)] or [y.write(book.thing(len(book) - 1))]
    for mark in "abc":
        y.move(mark, old=None, new=dice.choice(versions))
    return town, x, y


def near_versions(book, held, starts, deep):
    """Versions that are held and come by at most deep steps from the starts, step by step; and what lacks there."""
    level, near, missing = set(starts), set(), set()
    for _ in range(min(deep, 20) + 1):
        missing |= level - held
        near |= level & held
        level = {parent for version in level & held for parent in book.thing(version)[1]}
    return near, missing


def wished_of(book, held, versions, under):
    """What is wished of the versions, as far as what is held leads, whether it is held or not."""
    wished, entered = set(versions), set()
    for version in wished & held:
        root = book.thing(version)[2]
        wished = wished | {root}
        if root in held:
            entered |= {name for label, name in book.thing(root)[1] if not under or label in under}
    while True:
        more = {name for tree in entered & held if book.kind(tree) == "tree" for label, name in book.thing(tree)[1]}
        if more <= entered:
            return wished | entered
        entered |= more


def kept_of(book, held, roots):
    """All that walks by held parts lead to from the roots."""
    kept = set(roots)
    while True:
        more = {part for name in kept for part in book.parts(name)} & held
        if more <= kept:
            return kept
        kept |= more


class Whole(unittest.TestCase):
    def choices(self, dice, town):
        return {"deep": dice.choice([0, 1, 2, ALL]), "under": tuple(sorted(dice.sample("abc", dice.choice([0, 0, 1, 2])))),
                "also": tuple(sorted(dice.sample(range(len(town.book)), dice.randrange(3)))),
                "few": dice.choice([1, 4, 20])}

    def run_as_text(self, asker, teller):
        """A talk whose every row goes as text, said twice and answered twice, the same each time."""
        told = []
        while not asker.over():
            text = text_of(asker.say())
            self.assertEqual(text_of(asker.say()), text)
            answer = text_of(teller.answer(row_of(text)))
            self.assertEqual(text_of(teller.answer(row_of(text))), answer)
            asker.hear(row_of(answer))
            told.append((row_of(text), row_of(answer)))
        return told

    def test_any_talk_of_any_two_houses(self):
        for seed in range(250):
            dice = random.Random(seed)
            town, x, y = small_town(dice, leaves=6, versions=8)
            book, before, theirs = town.book, set(x.held()), set(y.held())
            wishes = tuple(sorted(dice.sample("abc", dice.randrange(4))))
            more = self.choices(dice, town)
            asker, teller = Asker(x, "y", wishes, **more), Teller(y)
            told = self.run_as_text(asker, teller)
            self.assert_settled(book, before, theirs, asker, told, more["few"])
            self.assert_sent(book, before, theirs, asker, told, [y.at(wish) for wish in wishes], more)
            self.assertEqual(x.far(), [("y", wish, y.at(wish)) for wish in wishes])
            self.assertEqual((x.roots(), set(y.held())), (sorted({y.at(wish) for wish in wishes}), theirs))

    def assert_settled(self, book, before, theirs, asker, told, few):
        """Just which of its versions the teller holds, none asked twice, no more asked than the chains let."""
        own = [name for name in sorted(before) if book.kind(name) == "version"]
        names = [name for row, answer in told if row[0] == "have" for name in row[1]]
        self.assertEqual(asker.common(), tuple(name for name in own if name in theirs))
        self.assertEqual((len(names), asker.asked()), (len(set(names)), len(names)))
        self.assertLessEqual(len(names), most_asks(cover(asker.shape())))
        self.assertTrue(all(len(row[1]) <= few for row, answer in told if row[0] == "have"))
        self.assertIs(right_paper(asker.shape(), asker.answers(), asker.paper()), True)

    def assert_sent(self, book, before, theirs, asker, told, starts, more):
        """Just what is wished, held there and not here, nothing twice, as cheaply as can be; and what lacks is told."""
        near, missing = near_versions(book, theirs, starts, more["deep"])
        wished = wished_of(book, theirs, near, more["under"]) | set(more["also"]) | missing
        self.assertEqual(sorted(asker.came()), sorted((wished & theirs) - before))
        self.assertEqual(set(asker.home.held()), before | (wished & theirs))
        self.assertEqual(wished - theirs - before, set(asker.gone()) - before)
        self.assertFalse(set(asker.gone()) & theirs)
        rows = [answer[2] for row, answer in told if row[0] == "row"]
        names, bases = told[-2 - len(rows)][0][1:]
        cost = told[-2 - len(rows)][1][2]
        self.assertEqual(cost, sum(row_price(book, row) for row in rows))
        leaves = tuple(name for name in names if book.kind(name) == "leaf")
        if len(leaves) <= PACK and len(bases) <= PACK:
            choice, prices = least_pack(book, leaves, bases)
            plainly = sum(row_price(book, row) for row in rows if row[0] not in leaves)
            self.assertEqual(cost, plainly + sum(paid for inside, paid in prices))
        self.assertTrue(all(book.kind(base) == "leaf" and base in before for base in bases))

    def test_a_talk_cut_behind_any_row(self):
        for seed in range(40):
            many, due = self.talk_cut_behind(seed, None)
            for cut in range(many):
                self.assertEqual(self.talk_cut_behind(seed, cut)[1], due)

    def talk_cut_behind(self, seed, cut):
        """How many rows the talk has, and both houses behind it, cut behind so many rows and gone on, or not cut."""
        dice = random.Random(seed)
        town, x, y = small_town(dice)
        number = town.begin("x", "y", ("a", "b"), **self.choices(dice, town))
        many, came = 0, []
        while many != cut and (pair := town.step(number)) is not None:
            many += 1
            came += [pair[1][2][0]] if pair[0][0] == "row" else []
        if cut is not None:
            town.cut(number)
            number = town.again(number)
            while (pair := town.step(number)) is not None:
                self.assertNotIn(pair[1][2][0] if pair[0][0] == "row" else None, came)
        return many, (x.held(), x.far(), x.roots(), y.roots())

    def test_shallow_then_deeper_then_all(self):
        for seed in range(100):
            dice = random.Random(seed)
            town, x, y = small_town(dice, versions=10)
            theirs, mine = set(y.held()), set(x.held())
            for deep in (0, 1, 2, ALL):
                came = town.pull("x", "y", ("a",), deep=deep)
                near, missing = near_versions(town.book, theirs, [y.at("a")], deep)
                wished = wished_of(town.book, theirs, near, ()) & theirs
                self.assertEqual(set(came), wished - mine)
                mine |= set(came)
                self.assertEqual(set(x.held()), mine)
            self.assertEqual(town.pull("x", "y", ("a",)), ())

    def test_labels_then_more_of_them(self):
        for seed in range(100):
            dice = random.Random(seed)
            town, x, y = small_town(dice)
            theirs, mine = set(y.held()), set(x.held())
            near, missing = near_versions(town.book, theirs, [y.at("a"), y.at("b")], ALL)
            for under in [("c",), ("a", "c"), ("a", "b", "c"), ()]:
                came = town.pull("x", "y", ("a", "b"), under=under)
                self.assertEqual(set(came), (wished_of(town.book, theirs, near, under) & theirs) - mine)
                mine |= set(came)
            self.assertEqual(town.pull("x", "y", ("a", "b")), ())

    def test_what_is_read_and_what_lacks_is_brought(self):
        for seed in range(60):
            dice = random.Random(seed)
            town, x, y = small_town(dice)
            for version in versions_of(town.book):
                for _ in range(20):
                    lacking = lacks(x.view(), version)
                    if not lacking:
                        break
                    for name, path in lacking:
                        with self.assertRaises(Lack) as caught:
                            read(x.view(), version, path)
                        self.assertEqual(caught.exception.name, name)
                    name = lacking[0][0]
                    came = town.pull("x", "y", (), also=(name,))
                    self.assertEqual(came, (name,) if y.holds(name) else ())
                    if not came:
                        break
                if not lacks(x.view(), version):
                    self.assert_read_plainly(town.book, x.view(), version)

    def assert_read_plainly(self, book, view, version):
        """Each path down tells what the book has there."""
        paths = [()]
        for path in paths:
            told = read(view, version, path)
            self.assertEqual(told, plain(book, version, path))
            if told[0] == "tree":
                paths.extend(path + (label,) for label in told[1])

    def test_sweeps_take_just_what_nothing_reaches(self):
        for seed in range(100):
            dice = random.Random(seed)
            town, x, y = small_town(dice)
            talk = town.begin("x", "y", ("a",))
            for _ in range(dice.randrange(8)):
                town.step(talk)
            for house, label in ((x, "x"), (y, "y")):
                held, roots = set(house.held()), house.roots()
                self.assertEqual(set(town.sweep(label)), held - kept_of(town.book, held, roots))
            town.drop(talk)
            town.pull("x", "y", ("b",))
            held = set(x.held())
            self.assertEqual(x.roots(), sorted({version for _, _, version in x.far()}))
            self.assertIn(("y", "b", y.at("b")), x.far())
            self.assertEqual(set(x.sweep()), held - kept_of(town.book, held, x.roots()))

    def test_a_checker_lets_by_only_what_is_so(self):
        for seed in range(60):
            dice = random.Random(seed)
            town, x, y = small_town(dice, versions=6)
            asker, teller = Asker(x, "y", ("a",)), Teller(y)
            while asker.say()[0] in ("hello", "have"):
                asker.hear(teller.answer(asker.say()))
            found, answers, told = asker.shape(), asker.answers(), asker.paper()
            for at, version in enumerate(found[0]):
                other = ("lacks" if told[at][0] == "held" else "held", told[at][1])
                wrong = told[:at] + (other,) + told[at + 1:]
                self.assertIs(right_paper(found, answers, wrong), False)
                self.assertEqual(told[at][0] == "held", y.holds(version))
            asker.drop()
            teller.drop()

    def test_nothing_told_changes_later(self):
        dice = random.Random(3)
        town, x, y = small_town(dice)
        view, held, far = x.view(), x.held(), x.far()
        copy = (Holding(town.book, view.names()), list(held), list(far))
        town.pull("x", "y", ("a", "b", "c"))
        x.sweep(deep=0)
        self.assertTrue(view == copy[0])
        self.assertEqual((held, far), copy[1:])


if __name__ == "__main__":
    unittest.main()
