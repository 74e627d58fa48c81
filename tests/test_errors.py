"""[0.2] and the interface: the errors."""

import unittest

from waypairs import errors
from waypairs.errors import WayError
from waypairs.manners import Manners

PARTS = {
    "BadField": ["name"], "BadKind": ["name"], "BadHouse": ["name"], "UnknownKind": ["name"],
    "UnknownField": ["kind", "name"], "BadWeb": ["thing"], "BadText": ["line"], "BadManner": ["name"],
    "BadClient": ["line"], "BadTravel": ["kind", "field"], "BadReader": ["kind"], "BadRow": ["travel"],
    "Endless": ["travel"], "TooLarge": ["count"], "BadSaved": ["line"], "BadStanding": [], "BadPaper": [],
    "BadComparer": ["kind"], "BadChange": ["at"], "BadName": ["name"], "Busy": [],
}


class TestErrors(unittest.TestCase):
    def test_classes(self):
        self.assertEqual(WayError.__bases__, (ValueError,))
        for name in PARTS:
            error = getattr(errors, name)
            self.assertEqual(error.__bases__, (WayError,), name)
            self.assertEqual(error.__name__, name)
            self.assertEqual(error.__module__, "waypairs.errors")

    def test_there_are_no_others(self):
        found = {name for name in vars(errors) if isinstance(getattr(errors, name), type)}
        self.assertEqual(found, set(PARTS) | {"WayError"})

    def test_attributes_are_the_very_values(self):
        values = [None, True, -3, "x", ["a", []], ("b",), {"c": 1}, Manners("old"), object()]
        for name, parts in PARTS.items():
            for value in values:
                given = [value, [value]][:len(parts)]
                error = getattr(errors, name)(*given)
                for part, one in zip(parts, given):
                    self.assertIs(getattr(error, part), one)

    def test_by_name(self):
        for name, parts in PARTS.items():
            error = getattr(errors, name)(**{part: part for part in parts})
            for part in parts:
                self.assertEqual(getattr(error, part), part)

    def test_caught_by_its_class_and_those_above_only(self):
        for name, parts in PARTS.items():
            error = getattr(errors, name)(*parts)
            self.assertIsInstance(error, WayError)
            self.assertIsInstance(error, ValueError)
            for other in PARTS:
                self.assertEqual(isinstance(error, getattr(errors, other)), other == name)
            with self.assertRaises(WayError):
                raise error


if __name__ == "__main__":
    unittest.main()
