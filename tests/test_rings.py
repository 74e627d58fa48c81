"""[8.3] to [8.5]: ranks, rings and their webs."""

import random
import unittest

from tests.drawn import drawn_home, drawn_house, drawn_travel
from tests.plaingrowth import PlainEntries, drawn_layers
from tests.samples import any_values, link, many, mark, node_house, raised
from waypairs.entrygraph import EntryGraph, copied_steps
from waypairs.errors import BadPaper, Endless, TooLarge
from waypairs.kinds import House, Kind
from waypairs.rings import KindRing, ranks_fault, ranks_of, ring_fault, shortest_ring, web_of_ring
from waypairs.rules import is_home
from waypairs.travels import Travel
from waypairs.walk import Heap, Walk

HOUSE = House("Root", [
    Kind("Root", [mark("m"), link("a", "Part"), link("leaf", "Leaf")]),
    Kind("Part", [mark("p", default=2), mark("q"), many("b", "Other"), link("root", "Root")]),
    Kind("Other", [link("c", "Part"), link("d", "Other")]),
    Kind("Leaf", [mark("m")]),
])
NEW_B = Travel(HOUSE, fates={("Part", "b"): "new"})
LEAVES = Travel(HOUSE, fates={("Root", "leaf"): "new"}, rules={"Leaf": "never"})
# Each kind leads on to the next ones by new memos, and to itself by steps that go.
STEPS = House("Aa", [
    Kind("Aa", [link("a", "Aa"), link("b", "Bb"), link("c", "Cc")]), Kind("Bb", [link("b", "Bb"), link("c", "Cc")]),
    Kind("Cc", [many("c", "Cc"), link("d", "Dd")]), Kind("Dd", [])])
FALLING = Travel(STEPS, fates={("Aa", "b"): "new", ("Aa", "c"): "new", ("Bb", "c"): "new"}, rules={"Dd": "never"})


def plain_rings(travel, length):
    """Whether some chain of copied steps of this length is a ring, and the entered kinds where one begins."""
    chains = [(kind, []) for kind in EntryGraph(travel).entered]
    for _ in range(length):
        chains = [(begin, [*steps, step]) for begin, steps in chains
                  for step in copied_steps(travel, steps[-1][1] if steps else begin)]
    found = set()
    for begin, steps in chains:
        if steps[-1][1] == begin:
            kinds = [begin] + [kind for _, kind in steps]
            new = any(travel.fate(kind, field) == "new" for kind, (field, _) in zip(kinds, steps))
            if new or all(travel.rule(kind) == "never" for _, kind in steps):
                found.add(begin)
    return found


def plain_leads(travel):
    """The fewest copied steps from the root kind to each entered kind."""
    found = {travel.source.root: 0}
    for count in range(12):
        for kind in [one for one in found if found[one] == count]:
            for _, other in copied_steps(travel, kind):
                found.setdefault(other, count + 1)
    return found


class TestRanks(unittest.TestCase):
    def test_without_a_cycle(self):
        self.assertEqual(ranks_of(travel=LEAVES), {"Root": 1, "Part": 0, "Other": 0, "Leaf": 0})
        self.assertEqual(list(ranks_of(FALLING).items()), [("Aa", 3), ("Bb", 2), ("Cc", 1), ("Dd", 0)])
        self.assertEqual(ranks_of(Travel(node_house())), {"Node": 0})
        # What is not entered has no rank.
        self.assertEqual(ranks_of(Travel(HOUSE, fates={("Root", "a"): "stays"})), {"Root": 0, "Leaf": 0})

    def test_with_a_cycle(self):
        for travel in (NEW_B, Travel(HOUSE, rules={"Other": "never"}), Travel(node_house(), rules={"Node": "never"}),
                       Travel(HOUSE, rules={"Root": "never", "Part": "never"})):
            self.assertIsNone(ranks_of(travel))
        self.assertEqual(ranks_of(Travel(HOUSE, rules={"Root": "never"})), {"Root": 0, "Part": 1, "Other": 0, "Leaf": 0})

    def test_longest_rows_of_edges(self):
        # The straight edge from Aa to Cc is shorter than the way by Bb.
        self.assertIn(("Aa", "c", "Cc"), list(EntryGraph(FALLING)))
        self.assertEqual(ranks_of(FALLING)["Aa"], 3)
        chance = random.Random(83)
        ending = 0
        for _ in range(300):
            travel = chance.choice([drawn_layers(chance, 7), drawn_travel(chance, drawn_house(chance))])
            expected = PlainEntries(travel).ranks()
            found = ranks_of(travel)
            self.assertEqual(found, expected)
            if found is not None:
                ending += 1
                self.assertEqual(tuple(found), EntryGraph(travel).entered)
                self.assertIsNone(ranks_fault(travel, found))
        self.assertGreater(ending, 100)


class TestRanksFault(unittest.TestCase):
    def fault(self, expected, **changed):
        given = {"Aa": 3, "Bb": 2, "Cc": 1, "Dd": 0, **changed}
        before = dict(given)
        self.assertEqual(ranks_fault(travel=FALLING, ranks=given), expected)
        self.assertEqual(given, before)

    def test_right(self):
        self.fault(None)
        self.fault(None, Aa=10 ** 30, Bb=7)
        # Other keys mean nothing.
        self.fault(None, Zz=True, any=[], root=-1)
        self.assertIsNone(ranks_fault(LEAVES, {"Root": 5, "Part": 5, "Other": 0, "Leaf": 4}))

    def test_missing_entries_and_wrong_values(self):
        self.assertEqual(ranks_fault(FALLING, {}), "Aa")
        self.assertEqual(ranks_fault(FALLING, {"Aa": 3, "Cc": 1}), "Bb")
        for value in any_values():
            self.fault("Bb" if value != 10 ** 40 - 1 else ("Aa", "b", "Bb"), Bb=value)
        self.fault("Cc", Cc=True)
        self.fault("Dd", Dd=False)
        self.fault("Dd", Dd=-1)
        # The kind comes before any edge.
        self.fault("Dd", Aa=0, Dd="0")

    def test_numbers_that_do_not_fall(self):
        self.fault(("Aa", "b", "Bb"), Aa=2)
        self.fault(("Bb", "c", "Cc"), Bb=1)
        self.fault(("Cc", "d", "Dd"), Cc=0)
        self.fault(("Aa", "b", "Bb"), Aa=0, Bb=0)
        self.fault(("Aa", "c", "Cc"), Aa=3, Bb=2, Cc=3)

    def test_travels_with_a_cycle(self):
        self.assertEqual(ranks_fault(NEW_B, {"Root": 3, "Part": 2, "Other": 1, "Leaf": 0}), ("Part", "b", "Root"))
        self.assertEqual(ranks_fault(NEW_B, {"Root": 0, "Part": 2, "Other": 1, "Leaf": 0}), ("Part", "b", "Part"))
        loop = Travel(node_house(), fates={("Node", "next"): "new"})
        for number in (0, 1, 10 ** 20):
            self.assertEqual(ranks_fault(loop, {"Node": number}), ("Node", "next", "Node"))


class TestKindRing(unittest.TestCase):
    def test_attributes_and_equality(self):
        ring = KindRing(lead=[("a", "Part")], ring=[("b", "Other"), ("c", "Part")])
        self.assertEqual((ring.lead, ring.ring), ((("a", "Part"),), (("b", "Other"), ("c", "Part"))))
        self.assertEqual(ring, KindRing((("a", "Part"),), (("b", "Other"), ("c", "Part"))))
        for other in (KindRing([], ring.ring), KindRing(ring.lead, []), KindRing(ring.ring, ring.lead), None, ring.ring):
            self.assertFalse(ring == other)
        given = [("a", "Part")]
        ring = KindRing(given, given)
        given.clear()
        self.assertEqual((len(ring.lead), len(ring.ring)), (1, 1))
        inner = ["a", "Part"]
        ring = KindRing([inner], [inner])
        inner.clear()
        self.assertEqual((ring.lead, ring.ring), ((["a", "Part"],), (["a", "Part"],)))


class TestShortestRing(unittest.TestCase):
    def check(self, travel):
        """Checks the shortest ring of a travel against all chains of copied steps; the ring."""
        found = shortest_ring(travel=travel)
        self.assertEqual(found is None, ranks_of(travel) is not None)
        if found is None:
            return None
        self.assertIsInstance(found, KindRing)
        self.assertIsNone(ring_fault(travel, found))
        for length in range(1, len(found.ring)):
            self.assertEqual(plain_rings(travel, length), set())
        begins = plain_rings(travel, len(found.ring))
        leads = plain_leads(travel)
        self.assertEqual(len(found.lead), leads[found.ring[-1][1]])
        self.assertEqual(len(found.lead), min(leads[kind] for kind in begins))
        web = web_of_ring(travel, found)
        self.assertTrue(is_home(web))
        raised(Endless, Walk(Heap(web), travel).finish)
        return found

    def test_no_ring(self):
        for travel in (LEAVES, FALLING, Travel(node_house()), Travel(HOUSE, rules={"Root": "never", "Leaf": "never"})):
            self.assertIsNone(self.check(travel))

    def test_rings(self):
        self.assertEqual(self.check(NEW_B), KindRing([("a", "Part")], [("b", "Other"), ("c", "Part")]))
        self.assertEqual(self.check(Travel(HOUSE, rules={"Other": "never"})),
                         KindRing([("a", "Part"), ("b", "Other")], [("d", "Other")]))
        self.assertEqual(self.check(Travel(HOUSE, rules={"Root": "never", "Part": "never"})),
                         KindRing([], [("a", "Part"), ("root", "Root")]))
        self.assertEqual(self.check(Travel(HOUSE, fates={("Other", "d"): "new"})),
                         KindRing([("a", "Part"), ("b", "Other")], [("d", "Other")]))
        self.assertEqual(self.check(Travel(HOUSE, fates={("Root", "a"): "new"})),
                         KindRing([], [("a", "Part"), ("root", "Root")]))
        # The shortest ring, although another one has no lead.
        self.assertEqual(self.check(Travel(HOUSE, fates={("Root", "a"): "new", ("Other", "d"): "new"})),
                         KindRing([("a", "Part"), ("b", "Other")], [("d", "Other")]))

    def test_a_ring_that_comes_by_a_kind_twice(self):
        house = House("Root", [Kind("Root", [link("a", "Root"), link("b", "Part")]), Kind("Part", [link("c", "Root")])])
        for fates in ({("Root", "b"): "new"}, {("Part", "c"): "new"}):
            self.assertEqual(self.check(Travel(house, fates=fates)), KindRing([], [("b", "Part"), ("c", "Root")]))

    def test_drawn(self):
        chance = random.Random(84)
        lengths = {}
        while len(lengths) < 3 or sum(lengths.values()) < 250:
            travel = chance.choice([drawn_layers(chance, 4), drawn_travel(chance, drawn_house(chance))])
            found = shortest_ring(travel)
            if found is None or len(found.ring) < 4:
                self.check(travel)
                count = 0 if found is None else len(found.ring)
                lengths[count] = lengths.get(count, 0) + 1

    def test_walks_that_end(self):
        chance = random.Random(85)
        walks = 0
        for _ in range(150):
            travel = chance.choice([drawn_layers(chance, 4), drawn_travel(chance, drawn_house(chance))])
            if shortest_ring(travel) is None:
                for _ in range(4):
                    try:
                        Walk(Heap(drawn_home(chance, travel.source, 8)), travel).finish()
                        walks += 1
                    except TooLarge:
                        continue
        self.assertGreater(walks, 200)


class TestRingFault(unittest.TestCase):
    def fault(self, lead, ring, expected, travel=NEW_B):
        self.assertEqual(ring_fault(travel=travel, found=KindRing(lead, ring)), expected)
        if expected is None:
            web_of_ring(travel, KindRing(lead, ring))
        else:
            raised(BadPaper, web_of_ring, travel, KindRing(lead, ring))

    def test_right(self):
        to_part, round_part = ("a", "Part"), [("b", "Other"), ("c", "Part")]
        self.fault([to_part], round_part, None)
        self.fault([to_part], round_part * 3, None)
        self.fault([to_part, *round_part], round_part, None)
        self.fault([], [to_part, *round_part, ("root", "Root")], None)
        self.fault([to_part, ("b", "Other")], [("c", "Part"), ("b", "Other")], None)

    def test_wrong_steps(self):
        steps = [("a", "Part"), ("b", "Other"), ("c", "Part")]
        for at, wrong in [(0, ("a", "Other")), (0, ("m", "Part")), (0, ("b", "Other")), (1, ("root", "Part")),
                          (1, ("x", "Other")), (2, ("c", "Other")), (2, ("d", "Part"))]:
            given = steps[:at] + [wrong] + steps[at + 1:]
            self.fault(given, [], ("lead", at))
            self.fault([], given, ("ring", at))
            self.fault(given[:1], given[1:], ("ring", at - 1) if at else ("lead", 0))
        for value in any_values() + [("a",), ["a", "Part"], ("a", "Part", 0), ("a", ["Part"]), "aPart"]:
            self.fault([value, *steps], [], ("lead", 0))
            self.fault(steps[:1], [steps[1], value], ("ring", 1))

    def test_steps_that_are_not_copied(self):
        travel = Travel(HOUSE, fates={("Part", "b"): "new", ("Root", "a"): "stays"})
        self.fault([("a", "Part")], [("b", "Other"), ("c", "Part")], ("lead", 0), travel)

    def test_what_is_no_ring(self):
        self.fault([("a", "Part")], [], ("ring", 0))
        self.fault([], [], ("ring", 0))
        self.fault([("a", "Part")], [("b", "Other")], ("ring", 1))
        self.fault([("a", "Part")], [("b", "Other"), ("d", "Other")], ("ring", 2))
        # Neither a step by new nor kinds that are never known.
        self.fault([], [("a", "Part"), ("root", "Root")], ("ring", 2))
        self.fault([("a", "Part"), ("b", "Other")], [("d", "Other")], ("ring", 1))
        never = Travel(HOUSE, rules={"Root": "never", "Other": "never"})
        self.fault([], [("a", "Part"), ("root", "Root")], ("ring", 2), never)
        self.fault([("a", "Part"), ("b", "Other")], [("d", "Other")], None, never)


class TestWebOfRing(unittest.TestCase):
    def test_thing_by_thing(self):
        web = web_of_ring(travel=NEW_B, found=KindRing([("a", "Part")], [("b", "Other"), ("c", "Part")]))
        self.assertEqual(web.things(), [
            ("Root", {"m": 1, "a": 1, "leaf": None}), ("Part", {"p": 2, "q": 2, "b": [2], "root": None}),
            ("Other", {"c": 1, "d": None})])
        self.assertEqual((web.here, web.old, web.house), (0, None, HOUSE))

    def test_a_thing_that_leads_to_itself(self):
        travel = Travel(node_house(), fates={("Node", "all"): "new"})
        self.assertEqual(web_of_ring(travel, KindRing([], [("all", "Node")])).things(),
                         [("Node", {"age": 1, "next": None, "all": [0]})])
        self.assertEqual(web_of_ring(travel, KindRing([("next", "Node")] * 2, [("all", "Node")])).things(), [
            ("Node", {"age": 1, "next": 1, "all": []}), ("Node", {"age": 2, "next": 2, "all": []}),
            ("Node", {"age": 3, "next": None, "all": [2]})])

    def test_long_rings(self):
        travel = Travel(node_house(), fates={("Node", "all"): "new"})
        for lead, ring in [(0, 60), (59, 1), (20, 40), (30, 30)]:
            web = web_of_ring(travel, KindRing([("next", "Node")] * lead, [("all", "Node")] * ring))
            self.assertEqual((len(web), is_home(web)), (60, True))
            raised(Endless, Walk(Heap(web), travel).finish)
            for longer in (KindRing([("next", "Node")] * (lead + 1), [("all", "Node")] * ring),
                           KindRing([("next", "Node")] * lead, [("all", "Node")] * (ring + 1)),
                           KindRing([("next", "Node")] * 4000, [("all", "Node")])):
                self.assertEqual(raised(TooLarge, web_of_ring, travel, longer).count, 60)
        # A wrong ring is refused first.
        raised(BadPaper, web_of_ring, travel, KindRing([("next", "Node")] * 70, [("next", "Node")]))


if __name__ == "__main__":
    unittest.main()
