"""Points 51, 52 and 53: notes."""

import itertools
import random
import unittest

from samples import Hamlet, housed, odd_things, random_book, talked, versions_of

from fewasks.asker import Asker
from fewasks.errors import NoText
from fewasks.notes import row_of, text_of
from fewasks.teller import Teller

TOP = 10 ** 18
ROWS = {
    "hello": ("hello",),
    "have ( 3 5 )": ("have", (3, 5)),
    "have ( )": ("have", ()),
    "have ( yes no )": ("have", (True, False)),
    "have ( no )": ("have", (False,)),
    "have ( 0 )": ("have", (0,)),
    "have ( 5 3 5 )": ("have", (5, 3, 5)),
    "want ( 3 ) 400 ( a ) ( 1 2 ) no ( )": ("want", (3,), 400, ("a",), (1, 2), False, ()),
    "want ( ) 0 ( ) ( ) yes ( )": ("want", (), 0, (), (), True, ()),
    "want ( 9 8 ) 1000 ( yes no take ) ( 1 ) no ( 7 7 )": ("want", (9, 8), 1000, ("yes", "no", "take"), (1,), False, (7, 7)),
    "lack ( 1 ) ( )": ("lack", (1,), ()),
    "lack ( ) ( 1 2 )": ("lack", (), (1, 2)),
    "row 0": ("row", 0),
    "row 1000000000000000000": ("row", TOP),
    "done": ("done",),
    "house ( main 7 old 3 ) ( 3 ) 12": ("house", (("main", 7), ("old", 3)), (3,), 12),
    "house ( ) ( ) 0": ("house", (), (), 0),
    "house ( b 1 a 2 a 2 ) ( ) 0": ("house", (("b", 1), ("a", 2), ("a", 2)), (), 0),
    "bill ( 1 ) ( 2 3 ) ( )": ("bill", (1,), (2, 3), ()),
    "bill ( ) ( ) ( )": ("bill", (), (), ()),
    "pack 4 19": ("pack", 4, 19),
    "row 0 4 plain tree ( a 1 b 0 )": ("row", 0, (4, "plain", ("tree", (("a", 1), ("b", 0))))),
    "row 0 4 plain tree ( )": ("row", 0, (4, "plain", ("tree", ()))),
    "row 2 9 plain version ( 7 ) 4 15": ("row", 2, (9, "plain", ("version", (7,), 4, 15))),
    "row 2 9 plain version ( ) 4 1000000000000000000": ("row", 2, (9, "plain", ("version", (), 4, TOP))),
    "row 2 0 plain version ( 1 2 3 4 ) 0 0": ("row", 2, (0, "plain", ("version", (1, 2, 3, 4), 0, 0))),
    "row 0 4 plain leaf 0": ("row", 0, (4, "plain", ("leaf", ()))),
    "row 0 4 plain leaf 1\n": ("row", 0, (4, "plain", ("leaf", ("",)))),
    "row 0 4 plain leaf 3\n\n\n": ("row", 0, (4, "plain", ("leaf", ("", "", "")))),
    "row 0 4 plain leaf 2\none  row \n ( yes": ("row", 0, (4, "plain", ("leaf", ("one  row ", " ( yes")))),
    "row 1 6 over 5 ( take 0 2 put 1 take 4 1 )\nnew": (
        "row", 1, (6, "over", 5, (("take", 0, 2), ("put", ("new",)), ("take", 4, 1)))),
    "row 1 6 over 5 ( )": ("row", 1, (6, "over", 5, ())),
    "row 1 6 over 5 ( take 0 1 )": ("row", 1, (6, "over", 5, (("take", 0, 1),))),
    "row 1 6 over 5 ( put 2 take 3 1 put 1 put 1 )\na\n\nb\n": (
        "row", 1, (6, "over", 5, (("put", ("a", "")), ("take", 3, 1), ("put", ("b",)), ("put", ("",))))),
    "row 1 6 over 5 ( take 1000000000000000000 1000000000000000000 )": ("row", 1, (6, "over", 5, (("take", TOP, TOP),))),
}
LEAF = ("row", 0, (4, "plain", ("leaf", ("x",))))


def pack_row(*parts):
    return ("row", 0, parts)


def kinds(thing):
    """The thing with the kinds of all its parts, as True and 1 are equal."""
    return (type(thing), tuple(kinds(part) for part in thing) if isinstance(thing, tuple) else thing)


class Case(unittest.TestCase):
    def assert_written(self, row, text):
        self.assertEqual(text_of(row), text)
        self.assertEqual(kinds(row_of(text)), kinds(row))
        self.assertEqual(text_of(row_of(text)), text)

    def assert_no_row(self, row):
        with self.subTest(str(row)[:80]):
            self.assertRaises(NoText, text_of, row)

    def assert_no_text(self, text):
        with self.subTest(repr(text)[:80]):
            self.assertRaises(NoText, row_of, text)


class Written(Case):
    def test_rows_of_each_kind(self):
        for text, row in ROWS.items():
            self.assert_written(row, text)

    def test_full_tuples(self):
        names = tuple(range(399, -1, -1))
        many = "( " + " ".join(str(name) for name in names) + " )"
        labels = tuple("abcdefgh"[:1 + k % 8] for k in range(400))
        under = "( " + " ".join(labels) + " )"
        self.assert_written(("have", names), f"have {many}")
        self.assert_written(("have", (True,) * 400), "have ( " + "yes " * 400 + ")")
        self.assert_written(("want", names, TOP, labels, names, True, names), f"want {many} {TOP} {under} {many} yes {many}")
        self.assert_written(("lack", names, names), f"lack {many} {many}")
        self.assert_written(("house", tuple(zip(labels, names)), names, TOP),
                            "house ( " + "".join(f"{label} {name} " for label, name in zip(labels, names)) + f") {many} {TOP}")
        self.assert_written(("bill", names, names, names), f"bill {many} {many} {many}")
        rows = tuple("x" * 40 for _ in range(40))
        self.assert_written(pack_row(4, "plain", ("leaf", rows)), "\n".join(["row 0 4 plain leaf 40", *rows]))
        letters = "abcdefghijklmnopqrst"
        self.assert_written(pack_row(4, "plain", ("tree", tuple((label, TOP) for label in letters))),
                            "row 0 4 plain tree ( " + "".join(f"{label} {TOP} " for label in letters) + ")")
        script = (("put", rows),) * 40
        self.assert_written(pack_row(4, "over", 5, script), "\n".join(["row 0 4 over 5 ( " + "put 40 " * 40 + ")", *(rows * 40)]))
        self.assert_written(pack_row(4, "over", 5, (("take", 0, 1),) * 40), "row 0 4 over 5 ( " + "take 0 1 " * 40 + ")")

    def test_all_signs_in_rows(self):
        signs = [chr(number) for number in range(32, 127) if number != 37]
        rows = tuple("".join(signs[at:at + 40]) for at in range(0, len(signs), 40))
        self.assert_written(pack_row(4, "plain", ("leaf", rows)), "\n".join(["row 0 4 plain leaf 3", *rows]))

    def test_rows_that_look_like_more(self):
        rows = ("done", "row 0", "( )", " ", "put 1", "")
        self.assert_written(pack_row(4, "plain", ("leaf", rows)), "row 0 4 plain leaf 6\ndone\nrow 0\n( )\n \nput 1\n")

    def test_the_rows_of_whole_talks(self):
        dice = random.Random(51)
        for _ in range(60):
            book = random_book(dice, leaves=7, versions=8)
            house, other = [housed(book, [name for name in range(len(book)) if dice.random() < share])
                            for share in (0.4, 0.9)]
            for version in versions_of(book):
                if other.holds(version):
                    other.move("main", old=other.marks()[0][1] if other.marks() else None, new=version, back=True)
            if other.marks():
                for row in itertools.chain.from_iterable(talked(Asker(house, "x", ("main",)), Teller(other))):
                    self.assert_written(row, text_of(row))

    def test_a_talk_that_goes_as_text(self):
        h = Hamlet()
        asker, teller = Asker(h.here, "there", ("main",)), Teller(h.there)
        while not asker.over():
            row = row_of(text_of(asker.say()))
            asker.hear(row_of(text_of(teller.answer(row))))
        self.assertEqual(h.here.held(), list(range(13))[:10] + [11, 12])

    def test_random_rows(self):
        dice = random.Random(53)
        ints = lambda: tuple(dice.choice([0, 1, 10, 99, TOP]) for _ in range(dice.randrange(4)))
        labels = lambda: tuple(dice.choice(["a", "no", "leaf", "abcdefgh"]) for _ in range(dice.randrange(4)))
        rows = lambda least: tuple(dice.choice(["", " ", "x", "a b", "( )"]) for _ in range(dice.randrange(least, 4)))
        piece = lambda: dice.choice([("take", dice.choice([0, TOP]), dice.choice([1, TOP])), ("put", rows(1))])
        for _ in range(2000):
            contents = [("leaf", rows(0)), ("tree", tuple((label, dice.randrange(9)) for label in sorted(set(labels())))),
                        ("version", tuple(sorted(set(ints()))), dice.randrange(9), dice.choice([0, TOP]))]
            row = dice.choice([
                ("have", ints()), ("have", tuple(dice.random() < 0.5 for _ in range(dice.randrange(4)))),
                ("want", ints(), dice.randrange(500), labels(), ints(), dice.random() < 0.5, ints()),
                ("lack", ints(), ints()), ("house", tuple((label, dice.randrange(99)) for label in labels()), ints(), 3),
                ("bill", ints(), ints(), ints()), ("pack", *dice.choices([0, 7, TOP], k=2)),
                ("row", 3, (dice.randrange(99), "plain", dice.choice(contents))),
                ("row", 3, (dice.randrange(99), "over", 8, tuple(piece() for _ in range(dice.randrange(4)))))])
            self.assert_written(row, text_of(row))


class NoRows(Case):
    def test_anything(self):
        for thing in odd_things():
            self.assert_no_row(thing)
            self.assert_no_row((thing,))
            for row in ROWS.values():
                self.assert_no_row((thing, *row[1:]))
                self.assert_no_row(row + (thing,)) if len(row) > 1 and row[0] != "row" else None
        for row in ROWS.values():
            self.assert_no_row(list(row))
            self.assert_no_row((row,))

    def test_anything_in_a_place(self):
        fits = {"have": [(), (True,), (1, 2, 3)], "want": [(), (1, 2, 3), ("leaf",), ("tree",), ("version",), True, False],
                "lack": [(), (1, 2, 3)], "bill": [(), (1, 2, 3)], "house": [(), (1, 2, 3)]}
        for row in [("have", (3,)), ("want", (3,), 4, ("a",), (1,), False, (2,)), ("lack", (1,), (2,)),
                    ("house", (("a", 1),), (3,), 12), ("bill", (1,), (2,), (3,)), ("pack", 4, 19), ("row", 0), LEAF]:
            for at, thing in itertools.product(range(1, len(row)), odd_things()):
                if thing not in fits.get(row[0], []):
                    self.assert_no_row(row[:at] + (thing,) + row[at + 1:])
        for word in ROWS.values():
            if len(word) > 1:
                self.assert_no_row(word[:1])

    def test_in_want_each_place_takes_its_kind_alone(self):
        row = ("want", (3,), 4, ("a",), (1,), False, (2,))
        rights = {1: [(), (1, 2, 3)], 2: [], 3: [(), ("leaf",), ("tree",), ("version",)], 4: [(), (1, 2, 3)],
                  5: [True, False], 6: [(), (1, 2, 3)]}
        for at, thing in itertools.product(range(1, 7), odd_things()):
            if any(thing == right and type(thing) is type(right) for right in rights[at]):
                self.assertIsInstance(text_of(row[:at] + (thing,) + row[at + 1:]), str)
            else:
                self.assert_no_row(row[:at] + (thing,) + row[at + 1:])

    def test_truths_for_ints_and_ints_for_truths(self):
        for row in [("have", (True, 1)), ("have", (0, False)), ("want", (), True, (), (), True, ()),
                    ("want", (), 0, (), (), 1, ()), ("want", (True,), 0, (), (), True, ()), ("lack", (True,), ()),
                    ("row", True), ("row", False), ("house", (("a", True),), (), 0), ("house", (), (True,), 0),
                    ("house", (), (), False), ("bill", (), (), (True,)), ("pack", True, 0), ("pack", 0, False),
                    pack_row(True, "plain", ("tree", ())), pack_row(1, "plain", ("tree", (("a", True),))),
                    pack_row(1, "plain", ("version", (), True, 0)), pack_row(1, "plain", ("version", (), 0, True)),
                    pack_row(1, "plain", ("version", (True,), 0, 0)), pack_row(1, "over", True, ()),
                    pack_row(1, "over", 0, (("take", False, 1),)), pack_row(1, "over", 0, (("take", 0, True),))]:
            self.assert_no_row(row)

    def test_numbers_beyond_their_bounds(self):
        for bad in (-1, TOP + 1, 10 ** 59):
            for row in [("have", (bad,)), ("want", (bad,), 0, (), (), True, ()), ("want", (), bad, (), (), True, ()),
                        ("want", (), 0, (), (bad,), True, ()), ("want", (), 0, (), (), True, (bad,)),
                        ("lack", (bad,), ()), ("lack", (), (bad,)), ("row", bad), ("house", (("a", bad),), (), 0),
                        ("house", (), (bad,), 0), ("house", (), (), bad), ("bill", (bad,), (), ()),
                        ("bill", (), (bad,), ()), ("bill", (), (), (bad,)), ("pack", bad, 0), ("pack", 0, bad),
                        ("row", bad, LEAF[2]), pack_row(bad, "plain", ("tree", ())),
                        pack_row(1, "plain", ("tree", (("a", bad),))), pack_row(1, "plain", ("version", (bad,), 0, 0)),
                        pack_row(1, "plain", ("version", (), bad, 0)), pack_row(1, "plain", ("version", (), 0, bad)),
                        pack_row(bad, "over", 0, ()), pack_row(1, "over", bad, ()),
                        pack_row(1, "over", 0, (("take", bad, 1),)), pack_row(1, "over", 0, (("take", 0, bad),))]:
                self.assert_no_row(row)
        self.assert_no_row(pack_row(1, "over", 0, (("take", 0, 0),)))

    def test_too_many_things(self):
        many, labels = (0,) * 401, ("a",) * 401
        for row in [("have", many), ("have", (True,) * 401), ("want", many, 0, (), (), True, ()),
                    ("want", (), 0, labels, (), True, ()), ("want", (), 0, (), many, True, ()),
                    ("want", (), 0, (), (), True, many), ("lack", many, ()), ("lack", (), many),
                    ("house", (("a", 0),) * 401, (), 0), ("house", (), many, 0), ("bill", many, (), ()),
                    ("bill", (), many, ()), ("bill", (), (), many),
                    pack_row(1, "plain", ("leaf", ("",) * 41)), pack_row(1, "plain", ("leaf", ("x" * 41,))),
                    pack_row(1, "plain", ("tree", tuple((label, 0) for label in "abcdefghijklmnopqrstu"))),
                    pack_row(1, "plain", ("version", (1, 2, 3, 4, 5), 0, 0)),
                    pack_row(1, "over", 0, (("take", 0, 1),) * 41), pack_row(1, "over", 0, (("put", ("x",) * 41),)),
                    pack_row(1, "over", 0, (("put", ("x" * 41,)),)), pack_row(1, "over", 0, (("put", ()),))]:
            self.assert_no_row(row)

    def test_labels(self):
        for label in ["", "A", "abcdefghi", "a b", "a1", "a\n", "\u00e9", "(", ")", 1, None, ("a",)]:
            self.assert_no_row(("want", (), 0, (label,), (), True, ()))
            self.assert_no_row(("house", ((label, 1),), (), 0))
            self.assert_no_row(pack_row(1, "plain", ("tree", ((label, 1),))))

    def test_contents_have_their_form(self):
        for content in [("tree", (("b", 1), ("a", 1))), ("tree", (("a", 1), ("a", 1))), ("tree", (["a", 1],)),
                        ("tree", [("a", 1)]), ("version", (2, 1), 0, 0), ("version", (1, 1), 0, 0),
                        ("version", [1], 0, 0), ("version", (), 0), ("version", (), 0, 0, 0), ("leaf", ["x"]),
                        ("leaf", ("a\nb",)), ("leaf", ("\t",)), ("leaf", (chr(37),)), ("leaf", ("\u00e9",)), ("leaf",),
                        ["leaf", ()], ("Leaf", ()), ("leaf", (), ()), ("tree", (), ())]:
            self.assert_no_row(pack_row(1, "plain", content))

    def test_pack_rows_have_their_form(self):
        for row in [(), (1,), (1, "plain"), (1, "over", 0), (1, "Over", 0, ()), (1, None, 0, ()), (1, 0, 0, ()), (1, "Plain", ("leaf", ())), (1, "plain", ("leaf", ()), 0),
                    (1, "over", 0, (), 0), (1, "over", 0, []), (1, "over", 0, (["take", 0, 1],)),
                    (1, "over", 0, (("take", 0),)), (1, "over", 0, (("put", ["x"]),)), (1, "over", 0, (("Put", ("x",)),)),
                    (1, "over", 0, (("put", ("a\nb",)),)), (1, "plain", 0, ()), (1, "over", ("leaf", ())),
                    [1, "plain", ("leaf", ())]]:
            self.assert_no_row(("row", 0, row))

    def test_marks_have_their_form(self):
        for mark in [("a",), ("a", 1, 2), ["a", 1], (1, "a"), "a", ("a", None), ()]:
            self.assert_no_row(("house", (mark,), (), 0))

    def test_rows_of_another_length(self):
        for row in [("hello", ()), ("done", ()), ("have",), ("have", (), ()), ("want", (), 0, (), (), True),
                    ("want", (), 0, (), (), True, (), ()), ("lack", ()), ("lack", (), (), ()), ("row",),
                    ("row", 0, LEAF[2], 0), ("house", (), ()), ("house", (), (), 0, 0), ("bill", (), ()),
                    ("bill", (), (), (), ()), ("pack", 0), ("pack", 0, 0, 0), ("Hello",), ("", ()), ("over",)]:
            self.assert_no_row(row)


class NoTexts(Case):
    def test_not_a_text(self):
        for thing in odd_things():
            self.assert_no_text(thing)

    def test_numbers(self):
        for number in ["00", "01", "007", "+1", "-1", "-0", "1_0", "1.0", "1e3", "0x1", " 1", "", "a", "\u0663", "\u00b2",
                       "1000000000000000001", "9999999999999999999", "1" * 20, "1" * 5000, "0" * 5000, "\uff11", "1\t"]:
            for text in ["row {}", "pack {} 0", "pack 0 {}", "have ( {} )", "have ( 1 {} )", "house ( a {} ) ( ) 0",
                         "house ( ) ( ) {}", "house ( ) ( {} ) 0", "want ( ) {} ( ) ( ) yes ( )",
                         "row {} 4 plain tree ( )", "row 0 {} plain tree ( )", "row 0 4 plain tree ( a {} )",
                         "row 0 4 plain version ( {} ) 0 0", "row 0 4 plain version ( ) {} 0",
                         "row 0 4 plain version ( ) 0 {}", "row 0 4 over {} ( )", "row 0 4 over 5 ( take {} 1 )",
                         "row 0 4 over 5 ( take 1 {} )", "row 0 4 over 5 ( put {} )\nx", "row 0 4 plain leaf {}\nx"]:
                self.assert_no_text(text.format(number))

    def test_each_text_with_one_thing_changed(self):
        for text in ROWS:
            first, end, rest = text.partition("\n")
            for at, sign in enumerate(first):
                if sign == " ":
                    self.assert_no_text(first[:at] + "  " + first[at + 1:] + end + rest)
                    self.assert_no_text(first[:at] + "\t" + first[at + 1:] + end + rest)
                    self.assert_no_text(first[:at] + "\n" + first[at + 1:] + end + rest)
                    # Without the blank two numbers, or two labels, may be one.
                    if "(" in first[at - 1:at + 2] or ")" in first[at - 1:at + 2]:
                        self.assert_no_text(first[:at] + first[at + 1:] + end + rest)
                if sign in "()":
                    self.assert_no_text(first[:at] + first[at + 1:] + end + rest)
                    self.assert_no_text(first[:at] + "[" + first[at + 1:] + end + rest)
            for wrong in [" " + text, first + " " + end + rest, text + "\n", text + "\n\n", "\n" + text, first + "\n" + end + rest,
                          text + "\r", text.replace(first, first + "\r", 1), first.upper() + end + rest, text + "\nx"]:
                self.assert_no_text(wrong)

    def test_too_few_words_or_lines(self):
        for text in ROWS:
            first, end, rest = text.partition("\n")
            words = first.split(" ")
            for many in range(len(words)):
                short = " ".join(words[:many])
                if short not in ("row 0", "row 1", "row 2"):
                    self.assert_no_text(short + end + rest)
                if end:
                    self.assert_no_text(short + end + rest)
            if end:
                self.assert_no_text(first)
                self.assert_no_text(text[:text.rindex("\n")])

    def test_too_many_words(self):
        for text in ROWS:
            first, end, rest = text.partition("\n")
            for more in ["0", "( )", ")", "(", "yes", "a", "done"]:
                self.assert_no_text(first + " " + more + end + rest)
        for text in ["have 3", "have ( 3", "have 3 )", "have ( ( 3 ) )", "have ( 3 ) )", "have (3)", "have ()", "have",
                     "have ( 3 yes )", "have ( yes 3 )", "have ( YES )", "have ( true )", "have ( True )", "have ( y )"]:
            self.assert_no_text(text)

    def test_unknown_words(self):
        for text in ["", " ", "\n", "hallo", "Hello", "hello hello", "HELLO", "over", "leaf 0", "plain", "4 plain leaf 0",
                     "row 0 4 plane leaf 0", "row 0 4 plain leaves 0", "row 0 4 plain over 5 ( )", "row 0 4 over 5 ( get 0 1 )",
                     "row 0 4 over 5 ( Take 0 1 )", "row 0 4 over 5 ( Put 1 )\nx", "row 0 4 plain Version ( ) 0 0",
                     "row 0 4 plain", "row 0 4", "row 0 4 over", "row 0 4 over 5", "none", "want", "row"]:
            self.assert_no_text(text)

    def test_too_many_things(self):
        many = "( " + "0 " * 401 + ")"
        for text in [f"have {many}", "have ( " + "no " * 401 + ")", f"lack {many} ( )", f"bill ( ) ( ) {many}",
                     "want ( ) 0 ( " + "a " * 401 + ") ( ) yes ( )", "house ( " + "a 0 " * 401 + ") ( ) 0",
                     "row 0 4 plain leaf 41" + "\n" * 41, "row 0 4 plain leaf 1\n" + "x" * 41,
                     "row 0 4 over 5 ( " + "take 0 1 " * 41 + ")", "row 0 4 over 5 ( put 41 )" + "\n" * 41,
                     "row 0 4 over 5 ( put 0 )", "row 0 4 over 5 ( take 0 0 )", "row 0 4 plain version ( 1 2 3 4 5 ) 0 0",
                     "row 0 4 plain tree ( " + "".join(f"{label} 0 " for label in "abcdefghijklmnopqrstu") + ")"]:
            self.assert_no_text(text)

    def test_labels(self):
        for label in ["abcdefghi", "A", "a1", "1", "a-b", "\u00e9", "("]:
            for text in ["want ( ) 0 ( {} ) ( ) yes ( )", "house ( {} 1 ) ( ) 0", "row 0 4 plain tree ( {} 1 )"]:
                self.assert_no_text(text.format(label))

    def test_contents_out_of_order(self):
        for text in ["row 0 4 plain tree ( b 1 a 0 )", "row 0 4 plain tree ( a 1 a 1 )", "row 0 4 plain tree ( a )",
                     "row 0 4 plain version ( 2 1 ) 0 0", "row 0 4 plain version ( 1 1 ) 0 0"]:
            self.assert_no_text(text)

    def test_other_line_ends_and_signs(self):
        for end in ["\r\n", "\r", "\x0b", "\x0c", "\x1c", "\x85", "\u2028"]:
            self.assert_no_text(f"row 0 4 plain leaf 1{end}x")
            self.assert_no_text(f"row 0 4 plain leaf 1\nx{end}")
            self.assert_no_text(f"row 0 4 plain leaf 2\nx{end}y")
        for sign in ["\t", "\x00", "\x7f", "\u00e9", chr(37), "\ud800"]:
            self.assert_no_text(f"row 0 4 plain leaf 1\n{sign}")
            self.assert_no_text(f"row 0 4 over 5 ( put 1 )\n{sign}")
            self.assert_no_text(f"hello{sign}")
        for blank in ["\u00a0", "\u2003", "\x0b"]:
            self.assert_no_text(f"row{blank}0")

    def test_texts_of_many_signs_and_words(self):
        for text in ["have ( " * 500, "have ( " + "1 " * 20000, "row 0 4 plain leaf 1\n" * 500, "x" * 100000]:
            self.assert_no_text(text)

    def test_random_changes(self):
        dice = random.Random(52)
        texts = list(ROWS)
        for _ in range(6000):
            text = dice.choice(texts)
            at = dice.randrange(len(text) + 1)
            text = text[:at] + dice.choice(["", " ", "\n", "0", "1", "(", ")", "a", "yes "]) + text[at + dice.randrange(3):]
            try:
                row = row_of(text)
            except NoText:
                continue
            self.assertEqual(text_of(row), text)


if __name__ == "__main__":
    unittest.main()
