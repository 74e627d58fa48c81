"""[3.12] and [3.13]: the judges of matchings and partings."""

import random
import unittest

from tests.plain import some_client, some_web
from tests.samples import any_values, chain, node_house, raised
from tests.test_matching import ice_house
from waypairs.alikejudge import matching_fault, parting_fault
from waypairs.clientrun import first_difference
from waypairs.clients import needed
from waypairs.errors import BadWeb, TooLarge
from waypairs.manners import Manners
from waypairs.matching import alike, matching, twinned, walked_pairs
from waypairs.parting import parting
from waypairs.refine import Ranks, folded
from waypairs.webs import Web

NODE = node_house()
NONE = Manners()


def node_web(*values, **roots):
    return Web(NODE, [("Node", one) for one in values], **roots)


class TestErrors(unittest.TestCase):
    def test_sizes_and_old(self):
        small, large, larger = [chain(NODE, "Node", "next", count) for count in (130, 131, 132)]
        with_old = small.rooted(0, old=0)
        for call in (matching_fault, parting_fault):
            self.assertEqual(raised(TooLarge, call, large, larger, NONE, None).count, 131)
            self.assertEqual(raised(TooLarge, call, small, larger, Manners("old"), [None]).count, 132)
            for manners in Manners.every():
                for first, second in [(small, with_old), (with_old, small), (small, small)]:
                    if "old" in manners:
                        self.assertEqual(raised(BadWeb, call, first, second, manners, [3]).thing, -1)
                    else:
                        call(first, second, manners, [3])
                call(with_old, with_old, manners, [3])


class TestMatchingFault(unittest.TestCase):
    def setUp(self):
        self.first = node_web({"next": 1, "all": [2, 3]}, {"age": 1}, {"age": 2}, {"age": 2})
        self.second = node_web({"next": 1, "all": [2, 2]}, {"age": 1}, {"age": 2})
        self.pairs = [(0, 0), (1, 1), (2, 2), (3, 2)]

    def check(self, pairs, expected, manners=NONE):
        given = list(pairs)
        self.assertEqual(matching_fault(first=self.first, second=self.second, manners=manners, pairs=given), expected)
        self.assertEqual(given, pairs)

    def test_right_in_any_order_and_doubled(self):
        self.check(self.pairs, None)
        self.check(self.pairs[::-1], None)
        self.check(self.pairs + self.pairs, None)
        # More pairs than are walked.
        self.check(self.pairs + [(3, 2), (1, 1)], None)
        larger = node_web({}, {"next": 2}, {})
        self.assertIsNone(matching_fault(larger, larger, NONE, [(0, 0), (2, 2), (1, 1), (0, 2), (2, 0)]))

    def test_pairs(self):
        for value in any_values() + [(4, 0), (0, 3), (-1, 0), (0, -1), (True, 0), (0, False), [0, 0], (0,), (0, 0, 0),
                                     ("0", 0), (0, "0"), (None, None), 0, ((0, 0), 0)]:
            for at in range(5):
                self.check(self.pairs[:at] + [value] + self.pairs[at:], ("pair", at))
            self.check([value], ("pair", 0))
        self.check([(0, 0), None, (9, 9)], ("pair", 1))
        # It comes ahead of all other faults.
        self.check([(0, 1), (1, 1), 7], ("pair", 2))

    def test_roots(self):
        self.check([], ("root", "here"))
        self.check(self.pairs[1:], ("root", "here"))
        self.first, self.second = self.first.rooted(0, old=2), self.second.rooted(0, old=2)
        old = Manners("old")
        self.check(self.pairs[:2], ("root", "old"), old)
        self.check(self.pairs[1:2], ("root", "here"), old)
        self.check(self.pairs, None, old)
        self.check(self.pairs[:2], ("step", 0, ("all", 0)))
        # It comes ahead of unequal sights.
        self.check([(1, 2)], ("root", "here"))
        self.check([(0, 0), (1, 2)], ("root", "old"), old)

    def test_sights_and_steps(self):
        self.check(self.pairs + [(1, 2)], ("see", 4))
        self.check([(1, 2)] + self.pairs, ("see", 0))
        self.check([(0, 0), (2, 2), (3, 2)], ("step", 0, ("next", None)))
        self.check([(1, 1), (0, 0), (3, 2)], ("step", 1, ("all", 0)))
        self.check([(1, 1), (2, 2), (0, 0)], ("step", 2, ("all", 1)))
        # The least index first, whichever fault it is; at one index the sights.
        self.check([(0, 0), (1, 2)], ("step", 0, ("next", None)))
        self.check([(1, 2), (0, 0)], ("see", 0))
        self.check([(1, 1), (0, 0), (1, 2)], ("step", 1, ("all", 0)))
        self.check([(1, 1), (0, 1), (0, 0)], ("see", 1))

    def test_twice(self):
        self.check(self.pairs, ("twice", 3), Manners("ask"))
        self.check(self.pairs, ("twice", 3), Manners("set"))
        self.check(self.pairs[::-1], ("twice", 1), Manners("ask", "set"))
        self.check([(3, 2), (3, 2), (0, 0), (1, 1), (1, 1), (2, 2)], ("twice", 5), Manners("ask"))
        # A pair that occurs several times is no unequal one.
        self.first = self.second
        self.check([(0, 0), (1, 1), (2, 2), (2, 2), (0, 0)], None, Manners("ask", "set"))
        # A thing of the first web in two pairs.
        larger = node_web({}, {}, {})
        for pairs, expected in [([(0, 0), (0, 1)], ("twice", 1)), ([(0, 0), (1, 0)], ("twice", 1)),
                                ([(0, 0), (1, 2), (2, 1)], None), ([(0, 0), (1, 1), (2, 2), (1, 2)], ("twice", 3)),
                                ([(1, 2), (0, 0), (2, 2), (0, 1)], ("twice", 2))]:
            for manners in (Manners("ask"), Manners("set")):
                self.assertEqual(matching_fault(larger, larger, manners, pairs), expected)
            self.assertIsNone(matching_fault(larger, larger, NONE, pairs))
        # It comes behind all others.
        self.assertEqual(matching_fault(larger, larger, Manners("ask"), [(0, 1), (0, 2)]), ("root", "here"))
        other = node_web({}, {"age": 1}, {})
        self.assertEqual(matching_fault(other, other, Manners("ask"), [(0, 0), (0, 2), (1, 0)]), ("see", 2))

    def test_things_that_are_not_movable(self):
        house = ice_house()
        for kind, movable in [("Tag", False), ("Card", True)]:
            web = Web(house, [("Root", {"all": [1, 2]}), (kind, {}), (kind, {})])
            pairs = [(0, 0), (1, 1), (2, 2), (1, 2)]
            self.assertEqual(matching_fault(web, web, Manners("ask"), pairs), ("twice", 3))
            self.assertEqual(matching_fault(web, web, Manners("set"), pairs), ("twice", 3) if movable else None)
            self.assertEqual(matching_fault(web, web, Manners("ask", "set"), pairs), ("twice", 3))
            self.assertIsNone(matching_fault(web, web, NONE, pairs))
        # What only old reaches makes a hook movable.
        web = Web(house, [("Root", {"all": [1, 2]}), ("Hook", {}), ("Hook", {}), ("Tag", {})], old=3)
        pairs = [(0, 0), (1, 1), (2, 2), (3, 3), (2, 1)]
        self.assertIsNone(matching_fault(web, web, Manners("set"), pairs))
        self.assertEqual(matching_fault(web, web, Manners("set", "old"), pairs), ("twice", 4))

    def test_matchings(self):
        chance = random.Random(41)
        for _ in range(150):
            first = some_web(chance, chance.randrange(1, 6), old=True, marks=1)
            second = folded(first)
            for manners in Manners.every():
                walked = walked_pairs(first, second, manners)
                found = matching_fault(first, second, manners, walked)
                self.assertIs(found is None, alike(first, second, manners))
                if found is None:
                    chance.shuffle(walked)
                    self.assertIsNone(matching_fault(first, second, manners, walked))
                    self.assertEqual(matching(first, second, manners), sorted(walked))
                    # Each pair of the walked ones is needed.
                    self.assertIsNotNone(matching_fault(first, second, manners, walked[1:]))
            for manners in (NONE, Manners("old")):
                self.assertIsNone(matching_fault(first, second, manners, list(Ranks(first, second))))


class TestPartingFault(unittest.TestCase):
    def setUp(self):
        self.first = node_web({"next": 1, "all": [1]}, {}, old=1)
        self.second = node_web({"next": 1, "all": [2]}, {}, {}, old=2)

    def check(self, client, manners, expected):
        self.assertEqual(parting_fault(first=self.first, second=self.second, manners=manners, client=client), expected)
        if isinstance(client, list):
            self.assertEqual(parting_fault(self.first, self.second, manners, tuple(client)), expected)

    ASKING = [("step", "a", "here", "next", None), ("step", "b", "here", "all", 0), ("same", "a", "b")]

    def test_right(self):
        self.check(self.ASKING, Manners("ask"), None)
        self.check(self.ASKING, Manners("ask", "old", "set"), None)
        # It need not have the fewest lines.
        self.check([("see", "here")] * 100 + self.ASKING, Manners("ask"), None)
        self.check([("step", "a", "here", "next", None), ("same", "a", "old")], Manners("ask", "old"), None)
        self.check([("step", "a", "here", "next", None), ("mark", "a", "age", 1), ("see", "old")],
                   Manners("old", "set"), None)

    def test_no_client(self):
        for value in any_values():
            if value not in ([], ()):
                for manners in Manners.every():
                    self.check(value, manners, "client")
        self.check([("see", "x")], NONE, "client")
        self.check([("see", "here")] * 201, NONE, "client")
        # It comes ahead of the manners.
        self.check([("same", "here", "here"), ("see", "x")], NONE, "client")

    def test_manners(self):
        for manners in Manners.every():
            for line, word in [(("same", "here", "here"), "ask"), (("mark", "here", "age", 0), "set"),
                               (("see", "old"), "old")]:
                self.check([line], manners, "alike" if word in manners else "manners")
        self.check(self.ASKING, Manners("old", "set"), "manners")
        # Without old among the manners a web need not have one.
        web = node_web({})
        self.assertEqual(parting_fault(web, web, NONE, [("see", "old")]), "manners")

    def test_alike(self):
        for client in ([], [("see", "here")], self.ASKING[:2], [("same", "here", "here")]):
            self.check(client, Manners("ask"), "alike")
        self.assertEqual(parting_fault(self.first, self.first, Manners("ask"), self.ASKING), "alike")

    def test_longer(self):
        self.check([*self.ASKING, ("see", "a")], Manners("ask"), "longer")
        self.check([*self.ASKING, *self.ASKING], Manners("ask"), "longer")

    def test_partings(self):
        chance = random.Random(42)
        told = {None: 0, "alike": 0, "longer": 0, "manners": 0}
        for _ in range(400):
            first = some_web(chance, chance.randrange(1, 5), old=True, marks=1)
            second = twinned(first, first.here, first.steps(first.here)[0]) if first.steps(first.here) else first
            if chance.random() < 0.7:
                second = second.with_value(chance.choice(second.reached(both=True)), "age", 5)
            for manners in Manners.every():
                client = some_client(chance, chance.randrange(1, 7), Manners("ask", "old", "set"))
                found = parting_fault(first, second, manners, client)
                told[found] += 1
                line = first_difference(client, first, second)
                if not needed(client).within(manners):
                    self.assertEqual(found, "manners")
                else:
                    self.assertEqual(found, "alike" if line is None else None if line == len(client) - 1 else "longer")
                best = parting(first, second, manners)
                if best is not None:
                    self.assertIsNone(parting_fault(first, second, manners, best))
                if found is None:
                    self.assertGreaterEqual(len(client), len(best))
        self.assertGreater(min(told.values()), 10)


if __name__ == "__main__":
    unittest.main()
