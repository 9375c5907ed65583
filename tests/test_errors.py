"""The refusals: what they are made from, and their fields."""

import unittest

from fewasks import errors

FIELDS = {
    "NoThing": (), "NoName": ("name",), "TooMany": (), "NoShape": (), "Contrary": ("upper", "lower"),
    "Unsettled": ("version",), "NoScript": (), "BadRow": (), "NoMark": ("mark",), "Stale": ("mark", "there"),
    "NotAhead": ("mark", "why"), "Lack": ("name",), "LetGo": (), "NoPath": ("path",), "NoText": (),
    "NoHouse": ("label",), "Taken": ("label",), "NoTalk": ("number",), "Broken": ("rows",),
}


class Refusals(unittest.TestCase):
    def test_there_are_nineteen(self):
        own = [name for name in vars(errors) if isinstance(getattr(errors, name), type)]
        self.assertEqual(sorted(own), sorted([*FIELDS, "HouseError"]))
        self.assertEqual(len(FIELDS), 19)

    def test_base_of_all(self):
        self.assertEqual(errors.HouseError.__bases__, (ValueError,))

    def test_each_is_made_from_house_error_alone(self):
        for name in FIELDS:
            with self.subTest(name):
                self.assertEqual(getattr(errors, name).__bases__, (errors.HouseError,))

    def test_none_is_another(self):
        for name in FIELDS:
            for other in FIELDS:
                if name != other:
                    self.assertFalse(issubclass(getattr(errors, name), getattr(errors, other)), (name, other))

    def test_fields_are_set_when_made(self):
        for name, fields in FIELDS.items():
            values = [["handed", field] for field in fields]
            with self.subTest(name):
                error = getattr(errors, name)(*values)
                self.assertEqual(list(vars(error)), list(fields))
                for field, value in zip(fields, values):
                    self.assertIs(getattr(error, field), value)

    def test_caught_by_the_base_and_as_value_error(self):
        for name, fields in FIELDS.items():
            for base in (errors.HouseError, ValueError):
                with self.subTest(name), self.assertRaises(base):
                    raise getattr(errors, name)(*fields)

    def test_message_is_a_text(self):
        for name, fields in FIELDS.items():
            with self.subTest(name):
                self.assertIsInstance(str(getattr(errors, name)(*fields)), str)


if __name__ == "__main__":
    unittest.main()
