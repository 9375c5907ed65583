"""Point 2: what is a number, a text, a label and a rising tuple; and the form of contents, whatever they name."""

import unittest

from samples import odd_things

from fewasks.forms import (begins_with, is_content_form, is_count, is_int, is_label, is_labels, is_rising, is_text,
                           is_truths, rises)


class Forms(unittest.TestCase):
    def test_ints(self):
        for thing in [0, 1, -1, 10 ** 60]:
            self.assertIs(is_int(thing), True)
        for thing in [True, False, None, "0", (0,), [0], {}]:
            self.assertIs(is_int(thing), False)

    def test_counts(self):
        for thing in [0, 1, 10 ** 60]:
            self.assertIs(is_count(thing), True)
        for thing in [-1, True, False, None, "0", (0,), [0], {}]:
            self.assertIs(is_count(thing), False)

    def test_truths(self):
        for thing in [(), (True,), (False, True)]:
            self.assertIs(is_truths(thing), True)
        for thing in [[], [True], True, (1,), (0,), (None,), (True, "yes"), None, {}, ""]:
            self.assertIs(is_truths(thing), False)

    def test_words_at_the_beginning(self):
        for thing, many in [(("row",), 1), (("row", 0), 2), (("row", None, []), 3)]:
            self.assertIs(begins_with(thing, "row", many), True)
        for thing in [*odd_things(), ("row",), ("row", 0, 0), ["row", 0], ("Row", 0), ("ro", "w"), {"row": 0}]:
            self.assertIs(begins_with(thing, "row", 2), False)

    def test_texts(self):
        for thing in ["", " ", "~", "a b", "x" * 100]:
            self.assertIs(is_text(thing), True)
        for thing in [chr(37), "a\n", "\t", "\x1f", "\x7f", "\u00e9", None, 0, (), ("a",), ["a"]]:
            self.assertIs(is_text(thing), False)

    def test_labels(self):
        for thing in ["a", "z", "abcdefgh"]:
            self.assertIs(is_label(thing), True)
        for thing in ["", "abcdefghi", "A", "a1", "a b", "`", "{", "\u00e9", None, 0, True, ("a",), ["a"]]:
            self.assertIs(is_label(thing), False)

    def test_tuples_of_labels(self):
        for thing in [(), ("a",), ("b", "a", "a")]:
            self.assertIs(is_labels(thing, 3), True)
        for thing in [("a",) * 4, ["a"], "a", ("A",), ("a", None), ("a", ""), None, {}]:
            self.assertIs(is_labels(thing, 3), False)

    def test_rising(self):
        for things in [(), (1,), (1, 2), (-5, 0, 9), ("a", "aa", "b"), ((1, 9), (2, 0))]:
            self.assertIs(rises(things), True)
        for things in [(1, 1), (2, 1), (1, 3, 2), (1, 2, 2), ("b", "a"), ((2, 0), (1, 9))]:
            self.assertIs(rises(things), False)

    def test_rising_tuples_of_ints(self):
        for thing in [(), (1,), (-5, 0, 9)]:
            self.assertIs(is_rising(thing), True)
        for thing in [[], [1, 2], (1, 1), (0, True), (False, 1), ("a", "b"), (1, None), None, 5, "", {}]:
            self.assertIs(is_rising(thing), False)

    def test_content_forms_whatever_they_name(self):
        for thing in [("leaf", ()), ("leaf", ("a", "")), ("tree", ()), ("tree", (("a", 999),)), ("version", (), 999, 0),
                      ("version", (7, 8, 9, 99), 5, 10 ** 18)]:
            self.assertIs(is_content_form(thing), True)
        for thing in [*odd_things(), ("tree", (("a", True),)), ("tree", (("a", None),)), ("version", (), True, 0),
                      ("version", (), None, 0), ("version", (True,), 0, 0), ("version", (), 0, False),
                      ("version", (1, 2, 3, 4, 5), 0, 0), ("version", (2, 1), 0, 0)]:
            with self.subTest(thing):
                self.assertIs(is_content_form(thing), False)


if __name__ == "__main__":
    unittest.main()
