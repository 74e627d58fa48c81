"""[1.9]: home webs."""

import itertools
import unittest

from tests.samples import any_values, chain, link, many, mark, node_house, raised, town_house, town_web
from waypairs.errors import UnknownKind
from waypairs.kinds import House, Kind
from waypairs.rules import fault, home_web, is_home, least_web, reached_kinds
from waypairs.webs import Web

NODE = node_house()


class TestFault(unittest.TestCase):
    def check(self, web, expected):
        self.assertEqual(fault(web), expected)
        self.assertEqual(fault(web=web), expected)
        self.assertIs(is_home(web), expected is None)
        self.assertIs(is_home(web=web), expected is None)

    def test_home_webs(self):
        self.check(town_web(), None)
        self.check(Web(NODE, [("Node", {})]), None)
        self.check(chain(NODE, "Node", "next", 60, ring=True), None)

    def test_root(self):
        self.check(town_web().rooted(1), ("root", 1))
        self.check(chain(NODE, "Node", "next", 3, ring=True).rooted(2), ("root", 2))
        self.check(Web(town_house(), [("Dot", {})]), ("root", 0))

    def test_old(self):
        self.check(town_web().rooted(0, old=0), ("old", 0))
        self.check(town_web().rooted(0, old=5), ("old", 5))

    def test_unreached(self):
        self.check(Web(NODE, [("Node", {"next": 2}), ("Node", {}), ("Node", {}), ("Node", {})]), ("unreached", 1))
        self.check(Web(NODE, [("Node", {}), ("Node", {"next": 0})]), ("unreached", 1))

    def test_keys(self):
        house = town_house()

        def web(*things):
            return Web(house, [("Town", {"parts": list(range(1, len(things) + 1))}), *things])
        self.check(web(("Tag", {"code": 1}), ("Tag", {"code": 2}), ("Note", {"line": 1})), None)
        self.check(web(("Tag", {"code": 1}), ("Note", {"line": 2}), ("Tag", {"code": 1, "tone": 8})), ("key", 3))
        self.check(web(("Note", {"line": 2}), ("Tag", {"code": 3}), ("Note", {"line": 2}), ("Tag", {"code": 3})),
                   ("key", 3))
        self.check(web(("Tag", {}), ("Tag", {"tone": 1})), ("key", 2))
        # Equal marks that are no keys, and equal keys of unlike kinds, are no fault.
        self.check(web(("Tag", {"code": 1, "tone": 4}), ("Tag", {"code": 2, "tone": 4}), ("Note", {"line": 1}),
                       ("Dot", {}), ("Dot", {}), ("Lost", {"way": 1}), ("Lost", {"way": 1})), None)

    def test_heirs_with_one_key(self):
        house = House("A", [Kind("A", [many("all")]), Kind("Base", [mark("a")], heirs=True),
                            Kind("B", [], base="Base", key="a"), Kind("C", [], base="Base", key="a")])

        def web(*kinds):
            return Web(house, [("A", {"all": [1, 2]}), *[(kind, {"a": 3}) for kind in kinds]])
        self.check(web("B", "C"), None)
        self.check(web("B", "B"), ("key", 2))
        self.check(web("Base", "Base"), None)

    def test_many(self):
        self.check(chain(NODE, "Node", "next", 61), ("many", 61))
        self.check(chain(NODE, "Node", "next", 4000, ring=True), ("many", 4000))

    def test_which_comes_first(self):
        long = chain(NODE, "Node", "next", 61, ring=True)
        self.check(long.rooted(3, old=2), ("root", 3))
        self.check(long.rooted(0, old=2), ("old", 2))
        self.check(long.with_value(9, "next", None), ("unreached", 10))
        self.check(long.with_value(9, "next", None).rooted(0, old=10), ("old", 10))
        house = town_house()
        twice = [("Town", {"parts": [1, 2]}), ("Tag", {}), ("Tag", {}), ("Dot", {})]
        self.check(Web(house, twice), ("unreached", 3))
        things = [("Town", {"parts": list(range(1, 62))}), ("Tag", {}), ("Tag", {}), *[("Dot", {})] * 59]
        self.check(Web(house, things), ("key", 2))


class TestLeastWebs(unittest.TestCase):
    def test_least_web(self):
        for kind in town_house().names:
            self.assertEqual(least_web(town_house(), kind), Web(town_house(), [(kind, {})]))
        self.assertEqual(least_web(house=NODE, kind="Node").things(), [("Node", {"age": 0, "next": None, "all": []})])
        self.assertEqual(least_web(town_house(), "Clerk")[0, "desk"], -7)

    def test_unknown_kinds(self):
        for value in any_values() + ["any"]:
            self.assertIs(raised(UnknownKind, least_web, NODE, value).name, value)
            self.assertIs(raised(UnknownKind, home_web, NODE, value).name, value)

    def test_reached_kinds(self):
        self.assertEqual(reached_kinds(town_house()), list(town_house().names))
        house = House("B", [Kind("C", [link("x", "B")]), Kind("A", []), Kind("B", [link("x", "D")]),
                            Kind("D", [link("x", "A")])])
        self.assertEqual(reached_kinds(house=house), ["A", "B", "D"])
        self.assertEqual(reached_kinds(House("A", [Kind("A", []), Kind("B", [])])), ["A"])

    def test_a_least_home_web_for_each_kind(self):
        deep = House("A", [Kind("A", [many("a", "B")]), Kind("B", [mark("m"), link("b", "C")]),
                           Kind("C", [link("c", "Base"), link("d", "A")]), Kind("Base", [], heirs=True),
                           Kind("Heir", [link("e", "Tag")], base="Base"), Kind("Tag", [mark("k")], key="k"),
                           Kind("Away", [link("f", "A")])])
        fewest = {"A": 1, "B": 2, "C": 3, "Base": 4, "Heir": 4, "Tag": 5, "Away": None}
        for kind in deep.names:
            web = home_web(house=deep, kind=kind)
            if fewest[kind] is None:
                self.assertIsNone(web)
                continue
            self.assertEqual(len(web), fewest[kind])
            self.assertTrue(is_home(web))
            self.assertIn(kind, [web.kind_of(thing) for thing in range(len(web))])
        for house in (town_house(), deep, NODE):
            for kind in house.names:
                web = home_web(house, kind)
                self.assertEqual(web is not None, kind in reached_kinds(house))
                self.assertTrue(web is None or (is_home(web) and web.house == house))
        ring = House("A", [Kind("A", [link("a", "B")]), Kind("B", [link("b", "B"), link("c", "C")]),
                           Kind("C", [link("b", "B")]), Kind("Away", [])])
        self.assertIsNone(home_web(ring, "Away"))
        self.assertEqual([len(home_web(ring, kind)) for kind in "ABC"], [1, 2, 3])
        self.assertEqual([len(home_web(town_house(), kind)) for kind in town_house().names],
                         [1] + [2] * 9)

    def test_no_smaller_web_has_the_kind(self):
        house = House("A", [Kind("A", [link("a", "B"), many("c", "C")]), Kind("B", [link("b", "C")]),
                            Kind("C", [link("d", "D")]), Kind("D", [])])
        for kind in "ABCD":
            size = len(home_web(house, kind))
            for count in range(1, size):
                for kinds in itertools.product("ABCD", repeat=count):
                    if kinds[0] == "A" and kind in kinds:
                        leads = all(any(name in house.leads(other) for other in kinds) for name in kinds[1:])
                        connected = count == 1 or (leads and any(name in house.leads("A") for name in kinds[1:]))
                        self.assertFalse(connected, (kind, kinds))


if __name__ == "__main__":
    unittest.main()
