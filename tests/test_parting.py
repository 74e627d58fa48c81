"""[3.11]: partings with the fewest lines."""

import random
import unittest

from tests.plain import plain_fewest, some_web
from tests.samples import chain, link, many, mark, node_house, raised
from tests.test_matching import ice_house
from waypairs.alikejudge import parting_fault
from waypairs.clientrun import first_difference
from waypairs.clients import needed
from waypairs.errors import BadWeb, TooLarge
from waypairs.kinds import House, Kind
from waypairs.manners import Manners
from waypairs.matching import alike, twinned, walked_pairs
from waypairs.parting import parting, parting_lines
from waypairs.refine import Ranks, folded
from waypairs.webs import Web

NODE = node_house()
NONE = Manners()


def node_web(*values, **roots):
    return Web(NODE, [("Node", one) for one in values], **roots)


def bare_house():
    """Things that can only be changed by filling an empty link."""
    return House("Root", [
        Kind("Root", [link("to"), many("all"), link("or", "Leaf")], frozen=False),
        Kind("Ring", [link("to", "Ring")]),
        Kind("Hook", [link("to", "Leaf")]),
        Kind("Leaf", []),
        Kind("Way", [link("to")]),
    ])


class TestParting(unittest.TestCase):
    def check(self, first, second, manners, lines):
        client = parting(first=first, second=second, manners=manners)
        self.assertEqual(parting_lines(first=first, second=second, manners=manners), lines)
        if lines is None:
            self.assertIsNone(client)
            return
        self.assertIsInstance(client, list)
        self.assertEqual(len(client), lines)
        self.assertTrue(needed(client).within(manners))
        self.assertEqual(first_difference(client, first, second), lines - 1)
        self.assertIsNone(parting_fault(first, second, manners, client))
        self.assertEqual(parting(first, second, manners), client)

    def test_by_looking(self):
        first = node_web({"next": 1, "all": [2]}, {"next": 2}, {"age": 1})
        second = node_web({"next": 1, "all": [2]}, {"next": 3}, {"age": 1}, {"age": 2})
        for manners in (NONE, Manners("ask"), Manners("set"), Manners("ask", "set")):
            self.check(first.rooted(2), second.rooted(3), manners, 1)
            self.check(first, first, manners, None)
        self.check(first, second, NONE, 3)
        self.check(first, second, Manners("set"), 3)

    def test_one_line_more_than_the_least_rank(self):
        chance = random.Random(31)
        for _ in range(100):
            first = some_web(chance, chance.randrange(1, 7), old=True)
            second = some_web(chance, chance.randrange(1, 7), old=True) if chance.random() < 0.3 else first.with_value(
                chance.randrange(len(first)), "age", 7).rooted(chance.randrange(len(first)), old=0)
            ranks = Ranks(first, second)
            here, old = ranks[first.here, second.here], ranks[first.old, second.old]
            self.check(first, second, NONE, None if here is None else here + 1)
            both = [rank for rank in (here, old) if rank is not None]
            self.check(first, second, Manners("old"), min(both) + 1 if both else None)

    def test_by_asking(self):
        self.check(node_web({"next": 0}), node_web({"next": 1}, {"next": 0}), Manners("ask"), 2)
        self.check(node_web({"next": 1, "all": [1]}, {}), node_web({"next": 1, "all": [2]}, {}, {}), Manners("ask"), 3)
        self.check(node_web({}, old=0), node_web({}, {}, old=1), Manners("ask", "old"), 1)
        self.check(node_web({}, old=0), node_web({}, {}, old=1), Manners("ask"), None)
        # Steps that both ways begin with are done once.
        one = node_web({"next": 1}, {"next": 2}, {"all": [3, 3]}, {})
        two = node_web({"next": 1}, {"next": 2}, {"all": [3, 4]}, {}, {})
        self.check(one, two, Manners("ask"), 5)
        self.check(one, two, Manners("set"), 6)
        self.check(one, two, Manners("ask", "set"), 5)

    def test_by_setting(self):
        self.check(node_web({"next": 0}), node_web({"next": 1}, {"next": 0}), Manners("set"), 3)
        self.check(node_web({}, old=0), node_web({}, {}, old=1), Manners("old", "set"), 2)
        self.check(node_web({}, old=0), node_web({}, {}, old=1), Manners("set"), None)

    def test_each_kind_of_change(self):
        house = House("A", [Kind("A", [many("all")]), Kind("L", [link("to")]), Kind("M", [many("to")]),
                            Kind("K", [mark("k")], key="k"), Kind("C", [mark("k"), mark("m")], key="k"),
                            Kind("F", [mark("m")], frozen=True), Kind("E", [link("to", "E")]), Kind("D", [])])
        for kind, values, lines in [("L", {"to": 0}, 4), ("M", {"to": [0]}, 4), ("M", {}, None), ("K", {}, None),
                                    ("C", {}, 4), ("C", {"m": 1}, 4), ("C", {"k": 5}, 4), ("K", {"k": 5}, None),
                                    ("F", {}, None), ("E", {}, 4), ("D", {}, None), ("L", {}, 4)]:
            one = Web(house, [("A", {"all": [1, 1]}), (kind, values)])
            two = Web(house, [("A", {"all": [1, 2]}), (kind, values), (kind, values)])
            self.check(one, two, Manners("set"), lines)
            self.check(one, two, Manners("ask"), 3)

    def test_filling_a_link_needs_a_third_thing(self):
        house = bare_house()
        for place, lines in [({}, None), ({"or": 3}, 5)]:
            one = Web(house, [("Root", {"all": [1, 1], **place}), ("Hook", {}), ("Hook", {}), ("Leaf", {})])
            two = Web(house, [("Root", {"all": [1, 2], **place}), ("Hook", {}), ("Hook", {}), ("Leaf", {})])
            self.check(one, two, Manners("set"), lines)
        # Far away.
        one = Web(house, [("Root", {"to": 1}), ("Root", {"all": [2, 2], "to": 4}), ("Hook", {}), ("Hook", {}),
                          ("Way", {"to": 5}), ("Leaf", {})])
        two = Web(house, [("Root", {"to": 1}), ("Root", {"all": [2, 3], "to": 4}), ("Hook", {}), ("Hook", {}),
                          ("Way", {"to": 5}), ("Leaf", {})])
        self.check(one, two, Manners("set"), 7)
        self.check(one, two, Manners("ask"), 4)
        self.assertEqual(plain_fewest(one, two, Manners("set"), 7), 7)

    def test_the_third_thing_on_the_way_to_one_of_the_two(self):
        house = House("Root", [Kind("Root", [link("a"), link("b")]), Kind("Way", [link("to")]),
                               Kind("Hook", [link("to", "Way")])])
        one = Web(house, [("Root", {"a": 1, "b": 2}), ("Hook", {}), ("Way", {"to": 1})])
        two = Web(house, [("Root", {"a": 1, "b": 2}), ("Hook", {}), ("Way", {"to": 3}), ("Hook", {})])
        self.check(one, two, Manners("set"), 5)
        self.check(two, one, Manners("set"), 5)
        self.assertEqual(plain_fewest(one, two, Manners("set"), 5), 5)

    def test_both_things_of_a_pair_are_shared(self):
        # A ring of three and one of two: the pairs of all things are walked.
        one, two = chain(NODE, "Node", "next", 3, ring=True), chain(NODE, "Node", "next", 2, ring=True)
        self.check(one, two, Manners("ask"), 3)
        self.check(one, two, Manners("set"), 4)
        self.check(one, two, NONE, None)

    def test_a_plain_search(self):
        chance = random.Random(32)
        found = {}
        for at in range(700):
            house = (NODE, ice_house(), bare_house())[at % 3]
            first = some_web(chance, chance.randrange(1, 5), house=house, kinds=house.names, old=True, marks=1,
                             places=2)
            second = self.another(chance, first)
            for manners in Manners.every():
                lines = parting_lines(first, second, manners)
                self.check(first, second, manners, lines)
                self.assertIs(lines is None, alike(first, second, manners))
                if lines is None or lines <= 5:
                    most = 3 if lines is None else lines
                    self.assertEqual(plain_fewest(first, second, manners, most), lines)
                    found[lines] = found.get(lines, 0) + 1
        self.assertGreater(min(found.get(lines, 0) for lines in (None, 1, 2, 3, 4, 5)), 20)

    def another(self, chance, web):
        """A web that looking mostly does not tell from the given one."""
        other = folded(web) if chance.random() < 0.5 else web
        for _ in range(2):
            thing = chance.choice(other.reached(both=True))
            if other.steps(thing):
                other = twinned(other, thing, chance.choice(other.steps(thing)))
        marks = web.house.marks_of(other.kind_of(0))
        if marks and chance.random() < 0.2:
            other = other.with_value(0, marks[0], 3)
        return other


class TestBounds(unittest.TestCase):
    def test_64_and_65_walked_pairs(self):
        for count in (64, 65):
            web = chain(NODE, "Node", "next", count)
            other = web.with_value(count - 1, "age", 1)
            self.assertEqual(len(walked_pairs(web, other, NONE)), count)
            for call in (parting, parting_lines):
                if count == 65:
                    self.assertEqual(raised(TooLarge, call, web, other, NONE).count, 65)
                    self.assertEqual(raised(TooLarge, call, web, web, Manners("ask")).count, 65)
            if count == 64:
                self.assertEqual(parting_lines(web, other, NONE), 64)
                client = parting(web, other, NONE)
                self.assertEqual(first_difference(client, web, other), 63)
                self.assertEqual(len({line[1] for line in client[:-1]}), 63)
        # Pairs are counted, not things; what nobody walks does not count.
        one, two = chain(NODE, "Node", "next", 8, ring=True), chain(NODE, "Node", "next", 9, ring=True)
        self.assertEqual(raised(TooLarge, parting, one, two, NONE).count, 72)
        long = chain(NODE, "Node", "next", 130)
        self.assertEqual(parting_lines(long, long.with_value(0, "age", 1), NONE), 1)
        self.assertIsNone(parting(long.rooted(66), long.rooted(66), NONE))
        self.assertEqual(raised(TooLarge, parting, long.rooted(65), long.rooted(65), NONE).count, 65)
        self.assertEqual(raised(TooLarge, parting, long, long, NONE).count, 130)

    def test_the_errors_ahead_of_it(self):
        small, large, larger = [chain(NODE, "Node", "next", count) for count in (100, 131, 140)]
        for call in (parting, parting_lines):
            self.assertEqual(raised(TooLarge, call, small, large, Manners("old")).count, 131)
            self.assertEqual(raised(TooLarge, call, larger, large, NONE).count, 140)
            self.assertEqual(raised(TooLarge, call, large, larger, NONE).count, 131)
            self.assertEqual(raised(BadWeb, call, small, small, Manners("old")).thing, -1)
            self.assertEqual(raised(BadWeb, call, small.rooted(0, old=0), small, Manners("old", "set")).thing, -1)
            self.assertEqual(raised(TooLarge, call, small, small, Manners("set")).count, 100)

    def test_two_chains_near_the_bounds(self):
        # Two ways of 31 steps to one thing, or to two.
        def web(ends):
            things = [("Node", {"next": 1, "all": [32]})]
            for start in (1, 32):
                things.extend(("Node", {"next": start + at + 1}) for at in range(30))
                things.append(("Node", {"next": ends[start > 1]}))
            return Web(NODE, [*things, ("Node", {}), ("Node", {})])
        one, two = web((63, 63)), web((63, 64))
        self.assertEqual(len(walked_pairs(one, two, NONE)), 65)
        for manners in (Manners("ask"), Manners("set")):
            self.assertEqual(raised(TooLarge, parting, one, two, manners).count, 65)
        first = one.with_value(61, "next", 63)
        second = two.with_value(61, "next", 64)
        self.assertEqual(len(walked_pairs(first, second, NONE)), 64)
        self.assertEqual(parting_lines(first, second, Manners("ask")), 64)
        self.assertEqual(parting_lines(first, second, Manners("set")), 65)
        for manners in (Manners("ask"), Manners("set")):
            client = parting(first, second, manners)
            self.assertEqual(first_difference(client, first, second), len(client) - 1)

    def test_many_things_in_common(self):
        house = bare_house()
        one = Web(house, [("Root", {"all": [1] * 62, "to": 2}), ("Hook", {}), ("Leaf", {})])
        two = Web(house, [("Root", {"all": list(range(2, 64)), "to": 1}), ("Leaf", {})] + [("Hook", {})] * 62)
        self.assertEqual(len(walked_pairs(one, two, NONE)), 64)
        self.assertEqual(parting_lines(one, two, Manners("set")), 5)
        self.assertEqual(parting_lines(one, two, Manners("ask")), 3)


if __name__ == "__main__":
    unittest.main()
