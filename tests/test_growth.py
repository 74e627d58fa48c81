"""[8.6] to [8.8], [8.10]: the most entries, spreads, moves, the degree, and growth tables."""

import random
import unittest

from tests.drawn import drawn_home, drawn_house, drawn_travel
from tests.plaingrowth import PlainEntries, drawn_layers, size_of
from tests.samples import any_values, link, many, mark, node_house, raised
from waypairs.errors import BadStanding, Endless, TooLarge, UnknownKind
from waypairs.growth import Growth, growth_fault, most_entries
from waypairs.kinds import House, Kind
from waypairs.rings import ranks_of
from waypairs.travels import Travel
from waypairs.walk import Heap, Walk

START = ("start",)
ENDLESS = Travel(node_house(), fates={("Node", "all"): "new"})
COPY = Travel(node_house())
FLAT = House("Root", [Kind("Root", [link("one", "Leaf"), many("all", "Leaf")]), Kind("Leaf", [mark("m")])])
# A list of nodes, each of which leads to a leaf.
DEEP = House("Root", [Kind("Root", [many("all", "Node")]), Kind("Node", [link("leaf", "Leaf"), many("more", "Leaf")]),
                      Kind("Leaf", [mark("m")])])


def entries_of(travel, web):
    """How many entries the walk over a web tells, up to the bound of the heap."""
    walk = Walk(Heap(web), travel)
    try:
        walk.finish()
    except TooLarge:
        pass
    return sum(event[0] == "enter" for event in walk.told())


class TestEndless(unittest.TestCase):
    def test_all_raise_it_first(self):
        for call, args in [(most_entries, [1]), (Growth, []), (growth_fault, [[None]])]:
            self.assertEqual(raised(Endless, call, ENDLESS, *args).travel, 1)


class TestMostEntries(unittest.TestCase):
    def test_by_hand(self):
        for size in (1, 2, 5, 10 ** 9):
            # The root and all nodes that are met are known in one memo.
            self.assertEqual(most_entries(travel=COPY, size=size), 1 + size)
            self.assertEqual(most_entries(Travel(FLAT), size), 1 + 2 * size)
            # Leaves that are never known are entered at each place and by the link.
            root = 1 + 1 + size
            self.assertEqual(most_entries(Travel(FLAT, rules={"Leaf": "never"}), size), root + size * root)
            # In a new memo for each place, which may know several leaves.
            root = 1 + size * size
            self.assertEqual(most_entries(Travel(FLAT, fates={("Root", "all"): "new"}), size),
                             root + size * (root + 1))
            self.assertEqual(most_entries(Travel(FLAT, fates={("Root", "one"): "stays", ("Root", "all"): "lost"}), size),
                             1 + size)
        deep = Travel(DEEP, fates={("Root", "all"): "new", ("Node", "more"): "new"})
        leaf, size = 1, 7
        node = 1 + leaf * size * size
        root = 1 + node * size * size + leaf * size * size
        self.assertEqual(most_entries(deep, size), root + size * root)

    def test_plain_sums(self):
        chance = random.Random(861)
        for _ in range(150):
            travel = chance.choice([drawn_layers(chance, 6), drawn_travel(chance, drawn_house(chance))])
            if ranks_of(travel) is not None:
                for size in (1, 2, 9, 1000):
                    self.assertEqual(most_entries(travel, size), PlainEntries(travel).most(size))

    def test_walks_over_drawn_webs(self):
        chance = random.Random(862)
        count = 0
        while count < 300:
            travel = chance.choice([drawn_layers(chance, 4), drawn_travel(chance, drawn_house(chance))])
            if ranks_of(travel) is not None:
                for _ in range(4):
                    web = drawn_home(chance, travel.source, chance.choice([1, 3, 9, 20]))
                    self.assertLessEqual(entries_of(travel, web), most_entries(travel, size_of(web)))
                    count += 1


class TestSpreads(unittest.TestCase):
    def check(self, travel, kind, expected):
        found = Growth(travel=travel).spreads(kind=kind)
        self.assertIs(type(found), list)
        self.assertEqual(len(set(found)), len(found))
        self.assertEqual(set(found), expected)
        self.assertEqual(set(found), PlainEntries(travel).spreads(kind))

    def test_by_a_list(self):
        self.check(Travel(FLAT), "Root", {("spread", "Leaf", None)})
        self.check(Travel(FLAT), "Leaf", set())
        self.check(Travel(FLAT, fates={("Root", "all"): "new"}), "Root", set())
        self.check(Travel(FLAT, rules={"Leaf": "never"}), "Root", set())
        # The list may stand anywhere on the way.
        self.check(Travel(DEEP, fates={("Node", "more"): "new"}), "Root",
                   {("spread", "Node", None), ("spread", "Leaf", None)})
        self.check(Travel(DEEP, fates={("Node", "more"): "new"}), "Node", set())

    def test_by_two_fields(self):
        def travel(turning, branch, **rules):
            house = House("Root", [Kind("Root", [link("step", "Root"), link("leaf", "Leaf")]),
                                   Kind("Leaf", [link("other", "Dot")]), Kind("Dot", [])])
            return Travel(house, fates={("Root", "step"): turning, ("Root", "leaf"): branch}, rules=rules)
        ring = ("spread", "Root", "step")
        self.check(travel("goes", "goes"), "Root", {ring, ("spread", "Leaf", None), ("spread", "Dot", None)})
        self.check(travel("goes", "new"), "Root", {ring})
        self.check(travel("stays", "goes"), "Root", set())
        self.check(travel("goes", "goes", Leaf="never"), "Root", {ring, ("spread", "Dot", None)})
        # Both fields lead back: also to more of the kind itself.
        house = House("Root", [Kind("Root", [link("a", "Root"), link("b", "Root")])])
        self.check(Travel(house), "Root", {("spread", "Root", field) for field in (None, "a", "b")})
        one = House("Root", [Kind("Root", [link("a", "Root")])])
        self.check(Travel(one), "Root", {("spread", "Root", "a")})

    def test_by_a_ring_further_on(self):
        house = House("Root", [Kind("Root", [link("far", "Far")]), Kind("Far", [link("back", "Turn")]),
                               Kind("Turn", [link("far", "Far"), link("leaf", "Leaf")]), Kind("Leaf", [])])
        self.check(Travel(house), "Root", {("spread", "Far", "back"), ("spread", "Turn", "far"),
                                           ("spread", "Leaf", None)})
        self.check(Travel(house), "Leaf", set())

    def test_by_kinds_that_are_never_known(self):
        house = House("Root", [Kind("Root", [link("out", "Air")]), Kind("Air", [link("on", "Wind"), link("in", "Root")]),
                               Kind("Wind", [link("back", "Root"), link("leaf", "Leaf")]), Kind("Leaf", [])])
        travel = Travel(house, rules={"Air": "never", "Wind": "never"})
        turning = {("spread", "Root", "out"), ("spread", "Air", "on"), ("spread", "Air", "in"),
                   ("spread", "Wind", "back")}
        known = {("spread", "Leaf", None), ("spread", "Root", None)}
        self.check(travel, "Root", turning | known)
        self.check(Travel(house, rules={"Wind": "never"}), "Root", turning | known | {("spread", "Air", None)})
        # From what is known on, only kinds that are never known pass the field on.
        house = House("Root", [Kind("Root", [link("out", "Air")]), Kind("Air", [link("on", "Air"), link("in", "Root")])])
        self.assertIsNone(ranks_of(Travel(house, rules={"Air": "never"})))
        house = House("Root", [Kind("Root", [link("air", "Air")]), Kind("Air", [link("in", "Know")]),
                               Kind("Know", [link("out", "Air")])])
        self.check(Travel(house, rules={"Air": "never"}), "Root",
                   {("spread", "Know", "out"), ("spread", "Air", "in")})
        self.check(Travel(house, rules={"Air": "never", "Know": "never"}, fates={("Know", "out"): "stays"}), "Root",
                   set())

    def test_any_values(self):
        growth = Growth(Travel(FLAT, fates={("Root", "one"): "lost", ("Root", "all"): "lost"}))
        for value in any_values() + ["Leaf", "any", "root", ["Root"], START]:
            self.assertEqual(raised(UnknownKind, growth.spreads, value).name, value)

    def test_drawn(self):
        chance = random.Random(87)
        seen = set()
        while len(seen) < 6:
            travel = drawn_layers(chance, 6)
            if ranks_of(travel) is not None:
                plain = PlainEntries(travel)
                growth = Growth(travel)
                for kind in plain.entered:
                    found = growth.spreads(kind)
                    self.assertEqual(len(set(found)), len(found))
                    self.assertEqual(set(found), plain.spreads(kind))
                    seen |= {(one[2] is None, plain.never(one[1])) for one in found}
                    seen |= {len(found) for one in found if len(found) > 4}


class TestMoves(unittest.TestCase):
    def check(self, travel, state, expected):
        found = Growth(travel).moves(state=state)
        self.assertEqual(len(dict(found)), len(found))
        self.assertEqual(dict(found), expected)
        self.assertEqual(dict(found), PlainEntries(travel).moves(state))

    def test_from_the_start(self):
        self.check(Travel(FLAT), START, {("point", "Root"): 0, ("point", "Leaf"): 0, ("spread", "Leaf", None): 1})
        self.check(Travel(FLAT, rules={"Root": "never", "Leaf": "never"}), START, {("point", "Root"): 0})

    def test_from_points(self):
        never = Travel(FLAT, rules={"Leaf": "never"})
        # By the list the gain is greater than by the link.
        self.check(never, ("point", "Root"), {("point", "Leaf"): 1})
        self.check(Travel(FLAT, rules={"Leaf": "never"}, fates={("Root", "all"): "stays"}), ("point", "Root"),
                   {("point", "Leaf"): 0})
        self.check(Travel(FLAT, fates={("Root", "one"): "new"}), ("point", "Root"), {("point", "Leaf"): 0})
        self.check(Travel(FLAT, fates={("Root", "all"): "new"}), ("point", "Root"), {("point", "Leaf"): 1})
        self.check(Travel(FLAT), ("point", "Root"), {})
        self.check(Travel(FLAT), ("point", "Leaf"), {})
        # A new memo that begins at a node finds many leaves.
        self.check(Travel(DEEP, fates={("Root", "all"): "new"}), ("point", "Root"), {
            ("point", "Node"): 1, ("point", "Leaf"): 1, ("spread", "Leaf", None): 2})

    def test_from_spreads(self):
        travel = Travel(DEEP, fates={("Node", "more"): "new", ("Node", "leaf"): "lost"})
        self.check(travel, ("spread", "Node", None), {("point", "Leaf"): 0})
        self.check(travel, ("point", "Node"), {("point", "Leaf"): 1})
        house = House("Root", [Kind("Root", [link("step", "Root"), link("leaf", "Leaf"), link("dot", "Leaf")]),
                               Kind("Leaf", [])])
        one = Travel(house, fates={("Root", "leaf"): "new"})
        self.check(one, ("spread", "Root", "step"), {("point", "Leaf"): 0})
        self.check(one, ("spread", "Root", "dot"), {("point", "Leaf"): 0})
        never = Travel(house, rules={"Leaf": "never"}, fates={("Root", "leaf"): "stays"})
        self.check(never, ("spread", "Root", "step"), {("point", "Leaf"): 0})
        self.check(never, ("spread", "Root", "dot"), {})

    def test_any_values(self):
        growth = Growth(Travel(DEEP, fates={("Node", "more"): "new"}))
        for state in (START, ("point", "Leaf"), ("spread", "Node", "leaf"), ("spread", "Root", "all"),
                      ("spread", "Leaf", None), ("spread", "Root", None)):
            growth.moves(state)
        for value in any_values() + [
                ["start"], ("start", None), ("Start",), "start", ("point",), ("point", "any"), ("point", "Node", None),
                ("point", ["Node"]), ("points", "Node"), ("spread", "Node"), ("spread", "Node", "more"),
                ("spread", "Node", "x"), ("spread", "Leaf", "m"), ("spread", "Root", None, 0), ("spread", "Root", ["all"]),
                ("spread", "Root", True), ("point", "Node", "leaf"), ("points", "Node", None), ((), "Node", None), ("one", "Root", (1,)), (START,), ("start", "Root"), (("start",), 0)]:
            raised(BadStanding, growth.moves, value)
        stays = Growth(Travel(DEEP, fates={("Root", "all"): "stays"}))
        for state in (("point", "Node"), ("spread", "Root", "all"), ("spread", "Leaf", None)):
            raised(BadStanding, stays.moves, state)

    def test_drawn(self):
        chance = random.Random(88)
        count = 0
        while count < 60:
            travel = drawn_layers(chance, 6)
            if ranks_of(travel) is not None:
                growth, plain = Growth(travel), PlainEntries(travel)
                for state in plain.states():
                    found = growth.moves(state)
                    self.assertEqual((len(dict(found)), dict(found)), (len(found), plain.moves(state)))
                count += 1


class TestDegree(unittest.TestCase):
    def check(self, travel, degree):
        growth = Growth(travel)
        self.assertEqual(growth.degree, degree)
        table = growth.table()
        self.assertEqual((table[0], len(dict(table))), ((START, degree), len(table)))
        self.assertEqual(dict(table), PlainEntries(travel).numbers())
        self.assertIsNone(growth_fault(travel, table))
        trail = growth.trail()
        self.assertEqual(trail[0], START)
        gains = [dict(growth.moves(one))[other] for one, other in zip(trail, trail[1:])]
        self.assertEqual(sum(gains), degree)
        return growth

    def test_degrees(self):
        one_thing = House("Root", [Kind("Root", [link("one", "Leaf")]), Kind("Leaf", [])])
        self.check(Travel(one_thing), 0)
        self.check(Travel(one_thing, fates={("Root", "one"): "new"}, rules={"Leaf": "never"}), 0)
        self.check(COPY, 1)
        self.check(Travel(FLAT, fates={("Root", "all"): "new"}), 1)
        self.check(Travel(FLAT, rules={"Leaf": "never"}), 1)
        self.check(Travel(FLAT, fates={("Root", "all"): "stays", ("Root", "one"): "stays"}), 0)
        self.check(Travel(DEEP, fates={("Root", "all"): "new", ("Node", "more"): "new"}), 2)
        self.check(Travel(DEEP, fates={("Root", "all"): "new"}), 2)
        # Nodes in one memo, each of which begins another one: every node has its list, but one leaf.
        self.check(Travel(DEEP, fates={("Node", "more"): "new"}), 1)
        house = House("Root", [Kind("Root", [many("all", "Part")]), Kind("Part", [many("all", "Node")]),
                               Kind("Node", [many("all", "Leaf")]), Kind("Leaf", [])])
        never = {kind: "never" for kind in ("Part", "Node", "Leaf")}
        self.check(Travel(house, rules=never), 3)
        self.check(Travel(house, fates={("Root", "all"): "new"}), 2)
        self.check(Travel(house, fates={("Root", "all"): "new", ("Node", "all"): "new"}), 2)
        self.check(Travel(house, fates={("Root", "all"): "new", ("Part", "all"): "new", ("Node", "all"): "new"}), 3)
        turning = House("Root", [Kind("Root", [link("on", "Root"), link("node", "Node")]),
                                 Kind("Node", [link("on", "Node"), link("leaf", "Leaf")]),
                                 Kind("Leaf", [link("on", "Leaf")])])
        self.check(Travel(turning, fates={("Root", "node"): "new", ("Node", "leaf"): "new"}), 3)

    def test_lists_are_new(self):
        growth = Growth(COPY)
        for told in (growth.table(), growth.trail(), growth.spreads("Node"), growth.moves(START)):
            self.assertIs(type(told), list)
            told.clear()
        self.check(COPY, 1)
        self.assertEqual((growth.table()[0], growth.trail()[0]), ((START, 1), START))
        self.assertGreater(len(growth.spreads("Node")) * len(growth.moves(START)), 0)

    def test_drawn(self):
        chance = random.Random(89)
        degrees = {}
        while sum(degrees.values()) < 120:
            travel = drawn_layers(chance, 6)
            if ranks_of(travel) is not None:
                degree = PlainEntries(travel).numbers()[START]
                self.check(travel, degree)
                degrees[degree] = degrees.get(degree, 0) + 1
        self.assertGreaterEqual(set(degrees), {1, 2, 3})

    def test_entries_do_not_grow_faster(self):
        """Apart from a constant factor webs of size n have at most n ** degree entries."""
        chance = random.Random(90)
        count = 0
        while count < 150:
            travel = drawn_layers(chance, 3)
            if ranks_of(travel) is not None:
                degree = Growth(travel).degree
                for most in (10, 25, 50):
                    web = drawn_home(chance, travel.source, most)
                    self.assertLessEqual(entries_of(travel, web), 8 * size_of(web) ** degree)
                count += 1


class TestGrowthFault(unittest.TestCase):
    travel = Travel(DEEP, fates={("Root", "all"): "new", ("Node", "more"): "new"})

    def fault(self, table, expected):
        before = list(table)
        self.assertEqual(growth_fault(travel=self.travel, table=table), expected)
        self.assertEqual(table, before)

    def setUp(self):
        self.table = Growth(self.travel).table()

    def test_right(self):
        self.fault(self.table, None)
        self.fault(self.table[::-1], None)
        self.fault([(state, number + 5) for state, number in self.table], None)
        self.fault(self.table + [(("spread", "Leaf", None), 0), (("spread", "Node", None), 10 ** 20)], None)

    def test_wrong_entries(self):
        for value in any_values() + [START, (START, 2, 0), [START, 2], (START, "2"), (START, -1), (START, True),
                                     (START, None), (("point", "any"), 0), (("spread", "Node", "more"), 1),
                                     ((START,), 2), (["start"], 2)]:
            self.fault([value, *self.table], 0)
            self.fault([*self.table, value], len(self.table))
            self.fault([*self.table[:2], value, None], 2)

    def test_doubled_states(self):
        self.fault([*self.table, self.table[0]], len(self.table))
        self.fault([self.table[1], self.table[1]], 1)
        self.fault([*self.table[:2], (self.table[0][0], 9), None], 2)

    def test_without_the_start(self):
        self.fault([], -1)
        self.fault(self.table[1:], -1)
        self.fault([(("point", "Leaf"), 0)], -1)
        # This is seen before what is missing behind others.
        self.fault([(("point", "Root"), 0)], -1)

    def test_numbers_too_small_and_missing_states(self):
        numbers = dict(self.table)
        moves = {state: Growth(self.travel).moves(state) for state in numbers}
        for at, (state, number) in enumerate(self.table):
            if number > 0:
                given = [(one, number - 1 if one == state else other) for one, other in self.table]
                wrong = [place for place, (one, _) in enumerate(given) if any(
                    dict(given)[other] + gain > dict(given)[one] for other, gain in moves[one])]
                self.assertTrue(wrong)
                self.fault(given, wrong[0])
            if state != START:
                given = [entry for entry in self.table if entry[0] != state]
                before = [one for one in numbers if one != state and state in dict(moves[one])]
                self.fault(given, min([one for one, _ in given].index(one) for one in before))


if __name__ == "__main__":
    unittest.main()
