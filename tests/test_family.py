"""[8.9]: families of webs over which the entries grow as fast as the degree tells."""

import random
import unittest

from tests.drawn import drawn_house, drawn_travel
from tests.plaingrowth import drawn_layers, size_of
from tests.samples import link, many, mark, node_house, raised
from tests.test_growth import DEEP, FLAT, entries_of
from waypairs.errors import Endless, TooLarge
from waypairs.family import family
from waypairs.growth import Growth, most_entries
from waypairs.kinds import House, Kind
from waypairs.rings import ranks_of
from waypairs.rules import is_home
from waypairs.travels import Travel


class Families(unittest.TestCase):
    def check(self, travel, *numbers):
        """Checks the webs of a family for these numbers; the webs, None where they are too large."""
        degree = Growth(travel).degree
        webs = []
        for many_ in numbers:
            try:
                web = family(travel=travel, many=many_)
            except TooLarge as e:
                self.assertEqual(e.count, 60)
                self.assertTrue(many_ > 2 or len(travel.source) > 3)
                webs.append(None)
                continue
            self.assertTrue(is_home(web))
            self.assertEqual(web.house, travel.source)
            self.assertLessEqual(size_of(web), 200 * many_)
            entries = entries_of(travel, web)
            # The heap has room for 4,000 things.
            self.assertGreaterEqual(entries, min(many_ ** degree, 4000 - len(web)))
            self.assertLessEqual(entries, most_entries(travel, size_of(web)))
            webs.append(web)
        return webs


class TestFamilies(Families):
    def test_degree_by_degree(self):
        one = House("Root", [Kind("Root", [link("one", "Leaf")]), Kind("Leaf", [])])
        self.check(Travel(one), 1, 2, 60, 200)
        for travel in (Travel(FLAT), Travel(FLAT, rules={"Leaf": "never"}), Travel(node_house()),
                       Travel(FLAT, fates={("Root", "all"): "new"})):
            self.check(travel, 1, 2, 3, 10, 50)
        for fates in ({("Root", "all"): "new", ("Node", "more"): "new"}, {("Root", "all"): "new"},
                      {("Node", "more"): "new"}):
            self.check(Travel(DEEP, fates=fates), 1, 2, 3, 10, 50)

    def test_places_of_one_list(self):
        # Things that are never known can be few: many places of a list hold one of them.
        travel = Travel(FLAT, rules={"Leaf": "never"})
        web = self.check(travel, 200)[0]
        self.assertEqual((len(web), len(web[0, "all"]), entries_of(travel, web)), (2, 200, 201))
        travel = Travel(DEEP, rules={"Node": "never", "Leaf": "never"})
        web = self.check(travel, 60)[0]
        self.assertEqual((len(web), entries_of(travel, web)), (3, 1 + 60 + 3600))

    def test_three(self):
        house = House("Root", [Kind("Root", [many("all", "Part")]), Kind("Part", [many("all", "Node")]),
                               Kind("Node", [many("all", "Leaf")]), Kind("Leaf", [mark("m")])])
        self.check(Travel(house, rules={kind: "never" for kind in house.names[1:]}), 1, 2, 5, 15)
        self.check(Travel(house, fates={(kind, "all"): "new" for kind in house.names[:3]}), 1, 2, 5, 15)
        # Many leaves, each with a mark of its own, by which the memo knows them.
        self.check(Travel(house, rules={"Leaf": "marks"}, fates={("Root", "all"): "new"}), 1, 2, 5, 15)

    def test_chains_and_branches(self):
        turning = House("Root", [Kind("Root", [link("on", "Root"), link("node", "Node")]),
                                 Kind("Node", [mark("m"), link("on", "Node"), link("leaf", "Leaf")]),
                                 Kind("Leaf", [link("on", "Leaf")])])
        for rules in ({}, {"Node": "marks"}):
            self.check(Travel(turning, fates={("Root", "node"): "new", ("Node", "leaf"): "new"}, rules=rules),
                       1, 2, 3, 6, 15)
        house = House("Root", [Kind("Root", [link("a", "Root"), link("b", "Root"), link("dot", "Dot")]),
                               Kind("Dot", [link("leaf", "Leaf")]), Kind("Leaf", [])])
        self.check(Travel(house, fates={("Root", "dot"): "new", ("Dot", "leaf"): "new"}), 1, 2, 4, 8)
        house = House("Root", [Kind("Root", [link("air", "Air")]), Kind("Air", [link("in", "Know"), many("x", "Leaf")]),
                               Kind("Know", [link("out", "Air")]), Kind("Leaf", [])])
        self.check(Travel(house, rules={"Air": "never"}, fates={("Air", "x"): "new"}), 1, 2, 4, 8)

    def test_endless(self):
        for fates in ({("Node", "all"): "new"}, {("Node", "next"): "new"}):
            self.assertEqual(raised(Endless, family, Travel(node_house(), fates=fates), 1).travel, 1)
        self.assertEqual(raised(Endless, family, Travel(node_house(), rules={"Node": "never"}), 200).travel, 1)

    def test_too_large(self):
        chain = House("Root", [Kind("Root", [link("on", "Root")])])
        for house, most in [(node_house(), 59), (chain, 60)]:
            webs = self.check(Travel(house), most, most + 1, 200)
            self.assertEqual((len(webs[0]), webs[1:]), (60, [None, None]))
        self.assertEqual(raised(TooLarge, family, Travel(node_house()), 200).count, 60)

    def test_small_sources(self):
        chance = random.Random(891)
        count = {}
        while sum(count.values()) < 250:
            travel = chance.choice([drawn_layers(chance, 3), drawn_layers(chance, 3),
                                    drawn_travel(chance, drawn_house(chance))])
            if len(travel.source) <= 3 and ranks_of(travel) is not None:
                self.assertNotIn(None, self.check(travel, 1, 2))
                degree = Growth(travel).degree
                count[degree] = count.get(degree, 0) + 1
        self.assertGreaterEqual(set(count), {0, 1, 2})

    def test_drawn(self):
        chance = random.Random(892)
        count = {}
        while sum(count.values()) < 60:
            travel = drawn_layers(chance, 7)
            if ranks_of(travel) is not None:
                self.check(travel, 1, 2, 3, 5, 9)
                degree = Growth(travel).degree
                count[degree] = count.get(degree, 0) + 1
        self.assertGreaterEqual(set(count), {1, 2, 3})


if __name__ == "__main__":
    unittest.main()
