"""[2.1]: manners."""

import itertools
import unittest

from tests.samples import any_values, raised
from waypairs.errors import BadManner
from waypairs.manners import Manners

SETS = [(), ("ask",), ("old",), ("set",), ("ask", "old"), ("ask", "set"), ("old", "set"), ("ask", "old", "set")]


class TestManners(unittest.TestCase):
    def test_names_in_their_order(self):
        self.assertEqual(Manners.WORDS, ("ask", "old", "set"))
        for names in SETS:
            for order in itertools.permutations(names):
                self.assertEqual(Manners(*order).names, names)
                self.assertIsInstance(Manners(*order).names, tuple)

    def test_wrong_arguments(self):
        for value in ["Ask", "see", "asks", "ask old"] + any_values():
            self.assertIs(raised(BadManner, Manners, value).name, value)
            self.assertIs(raised(BadManner, Manners, "set", value, "ask").name, value)
        self.assertEqual(raised(BadManner, Manners, ("ask", "old")).name, ("ask", "old"))

    def test_doubled_arguments(self):
        self.assertEqual(raised(BadManner, Manners, "ask", "ask").name, "ask")
        self.assertEqual(raised(BadManner, Manners, "set", "old", "set").name, "set")
        # The first argument that is wrong, in either way.
        self.assertEqual(raised(BadManner, Manners, "old", "old", "no").name, "old")
        self.assertEqual(raised(BadManner, Manners, "old", "no", "old").name, "no")

    def test_len_and_in(self):
        for names in SETS:
            manners = Manners(*names)
            self.assertEqual(len(manners), len(names))
            for word in Manners.WORDS:
                self.assertIs(word in manners, word in names)
            for value in any_values() + ["Ask", ("ask",), ["ask"], manners]:
                self.assertIs(value in manners, False)

    def test_union_and_within(self):
        for names in SETS:
            for others in SETS:
                one, other = Manners(*names), Manners(*others)
                self.assertEqual(set((one | other).names), set(names) | set(others))
                self.assertIs(one.within(other), set(names) <= set(others))
                self.assertIs(one.within(other=other), set(names) <= set(others))
                self.assertEqual((one.names, other.names), (names, others))

    def test_every(self):
        self.assertEqual([manners.names for manners in Manners.every()], SETS)
        Manners.every().clear()
        self.assertEqual(len(Manners.every()), 8)

    def test_equality(self):
        for names in SETS:
            for others in SETS:
                self.assertIs(Manners(*names) == Manners(*others), names == others)
        self.assertEqual(Manners("set", "ask"), Manners("ask", "set"))
        self.assertNotEqual(Manners("ask"), ("ask",))
        self.assertNotEqual(Manners(), None)


if __name__ == "__main__":
    unittest.main()
