"""[5.4]: registers."""

import unittest

from tests.samples import any_values, chain, many, mark, node_house, raised, town_web
from waypairs.errors import BadWeb
from waypairs.kinds import House, Kind
from waypairs.registers import Register
from waypairs.rules import fault
from waypairs.webs import Web

HOUSE = House("Root", [
    Kind("Root", [many("all")]),
    Kind("Zed", [mark("tone", default=4), mark("code")], key="code", registered=True),
    Kind("Note", [mark("line")], key="line"),
    Kind("Base", [mark("b")], heirs=True),
    Kind("Ada", [mark("key")], base="Base", key="key", registered=True),
])


def house_web():
    things = [("Zed", {"code": 7, "tone": 1}), ("Ada", {"b": 3, "key": 7}), ("Note", {"line": 7}),
              ("Zed", {"code": -7}), ("Ada", {"key": 0}), ("Zed", {"code": 10 ** 30 - 1}), ("Ada", {"key": -1})]
    return Web(HOUSE, [("Root", {"all": list(range(1, 8))}), *things])


class TestRegister(unittest.TestCase):
    def setUp(self):
        self.named = Register(web=house_web())

    def test_order(self):
        expected = [("Zed", -7), ("Zed", 7), ("Zed", 10 ** 30 - 1), ("Ada", -1), ("Ada", 0), ("Ada", 7)]
        self.assertEqual(list(self.named), expected)
        self.assertEqual([name for name in self.named], expected)
        self.assertTrue(all(type(name) is tuple for name in self.named))
        self.assertEqual(len(self.named), 6)

    def test_values(self):
        self.assertEqual(self.named.values_of(kind="Zed", key=7), {"tone": 1, "code": 7})
        self.assertEqual(list(self.named.values_of("Zed", 7)), ["tone", "code"])
        self.assertEqual(self.named.values_of("Zed", -7), {"tone": 4, "code": -7})
        self.assertEqual(self.named.values_of("Ada", 7), {"b": 3, "key": 7})
        self.assertEqual(list(self.named.values_of("Ada", 7)), ["b", "key"])

    def test_the_dict_is_new(self):
        self.named.values_of("Zed", 7)["tone"] = 9
        self.named.values_of("Zed", 7).clear()
        self.assertEqual(self.named.values_of("Zed", 7), {"tone": 1, "code": 7})

    def test_what_is_in_it(self):
        for name in self.named:
            self.assertIn(name, self.named)
        for value in any_values() + [("Zed", 8), ("Note", 7), ("Root", 0), ("Zed", "7"), ["Zed", 7], ("Zed", 7, 7),
                                     ("Ada", False), ("Ada", 0.0), ("Zed", [7]), (["Zed"], 7), "Zed", ("Zed",)]:
            self.assertNotIn(value, self.named)

    def test_values_of_any_other_values(self):
        for value in any_values() + [8, 0, "7", "Note"]:
            self.assertIsNone(self.named.values_of("Zed", value))
            self.assertIsNone(self.named.values_of(value, 7))
            self.assertIsNone(self.named.values_of(value, value))
        self.assertIsNone(self.named.values_of("Ada", False))
        self.assertIsNone(self.named.values_of("Note", 7))

    def test_empty(self):
        named = Register(chain(node_house(), "Node", "next", 2))
        self.assertEqual((len(named), list(named)), (0, []))
        self.assertNotIn(("Node", 0), named)
        self.assertEqual(list(Register(town_web())), [("Tag", 5)])

    def test_no_home_webs(self):
        web = house_web()
        two = [("Root", {"all": [1, 2]}), ("Note", {}), ("Note", {})]
        for wrong in [web.rooted(0, old=3), web.rooted(2), Web(HOUSE, web.things() + [("Base", {})]), Web(HOUSE, two),
                      Web(HOUSE, [("Root", {"all": list(range(1, 61))})] + [("Base", {})] * 60)]:
            self.assertEqual(raised(BadWeb, Register, wrong).thing, fault(wrong)[1])
        self.assertEqual(raised(BadWeb, Register, web.rooted(0, old=3)).thing, 3)
        self.assertEqual(raised(BadWeb, Register, Web(HOUSE, two)).thing, 2)

    def test_only_equal_to_itself(self):
        self.assertEqual(self.named, self.named)
        self.assertNotEqual(self.named, Register(house_web()))


if __name__ == "__main__":
    unittest.main()
