"""[3.6] to [3.10]: walked pairs, movable things, matchings, twins."""

import random
import unittest

from tests.plain import plain_alike, plain_movable, plain_walk, shuffled, some_client, some_web
from tests.samples import any_values, chain, link, many, mark, node_house, raised, town_house, town_web
from waypairs.clientrun import first_difference
from waypairs.errors import BadWeb, TooLarge
from waypairs.kinds import House, Kind
from waypairs.manners import Manners
from waypairs.matching import alike, is_movable, matching, twinned, walked_pairs
from waypairs.refine import Ranks, folded
from waypairs.webs import Web

NODE = node_house()
NONE = Manners()


def node_web(*values, **roots):
    return Web(NODE, [("Node", one) for one in values], **roots)


def ice_house():
    """Kinds whose things are movable in each of the ways, and not."""
    return House("Root", [
        Kind("Root", [mark("m"), many("all")]),
        Kind("Ice", [mark("m"), link("to", "Leaf")], frozen=True),
        Kind("Leaf", []),
        Kind("Tag", [mark("k")], key="k"),
        Kind("Card", [mark("k"), mark("m")], key="k"),
        Kind("Bag", [many("all", "Leaf")]),
        Kind("Ring", [link("to", "Ring")]),
        Kind("Hook", [link("to", "Tag")]),
        Kind("Pair", [link("to", "Tag"), link("or", "Leaf")]),
    ])


class TestRefusals(unittest.TestCase):
    def calls(self):
        return [walked_pairs, matching, alike]

    def test_130_and_131_things(self):
        small, large, larger = [chain(NODE, "Node", "next", count) for count in (130, 131, 200)]
        for call in self.calls():
            call(small, small, NONE)
            for first, second, count in [(large, small, 131), (small, large, 131), (larger, large, 200),
                                         (large, larger, 131)]:
                self.assertEqual(raised(TooLarge, call, first, second, NONE).count, count)
                # It comes ahead of a missing old.
                self.assertEqual(raised(TooLarge, call, first, second, Manners("old")).count, count)
        self.assertIs(is_movable(small, 129, NONE), True)
        self.assertEqual(raised(TooLarge, is_movable, large, None, Manners("old")).count, 131)
        self.assertEqual(raised(TooLarge, twinned, large, None, None).count, 131)
        self.assertEqual(len(twinned(small, 0, ("next", None))), 131)
        self.assertEqual(raised(TooLarge, matching, twinned(small, 0, ("next", None)), small, NONE).count, 131)

    def test_a_missing_old(self):
        without, having = node_web({}), node_web({}, old=0)
        for manners in Manners.every():
            for call in self.calls():
                for first, second in [(without, without), (without, having), (having, without)]:
                    if "old" in manners:
                        self.assertEqual(raised(BadWeb, call, first, second, manners).thing, -1)
                    else:
                        call(first, second, manners)
                call(having, having, manners)
            if "old" in manners:
                self.assertEqual(raised(BadWeb, is_movable, without, 0, manners).thing, -1)
                self.assertEqual(raised(BadWeb, is_movable, without, 7, manners).thing, -1)
            else:
                self.assertIs(is_movable(without, 0, manners), True)


class TestWalkedPairs(unittest.TestCase):
    def test_order(self):
        first = node_web({"next": 1, "all": [2, 1]}, {"all": [0]}, {"next": 0}, {"age": 4, "next": 3}, old=3)
        second = node_web({"next": 2, "all": [1, 3]}, {"next": 0}, {"all": [0]}, {"all": [4]},
                          {"next": 2, "all": [1, 3]}, {"age": 4, "next": 5}, old=5)
        self.assertEqual(walked_pairs(first=first, second=second, manners=NONE),
                         [(0, 0), (1, 2), (2, 1), (1, 3), (0, 4)])
        self.assertEqual(walked_pairs(first, second, Manners("old", "ask")),
                         [(0, 0), (3, 5), (1, 2), (2, 1), (1, 3), (0, 4)])

    def test_nothing_more_from_unequal_sights(self):
        first = node_web({"next": 1, "all": [2]}, {"next": 0}, {"age": 1, "next": 0})
        second = node_web({"next": 1, "all": [2]}, {"next": 0}, {"age": 2, "next": 1})
        self.assertEqual(walked_pairs(first, second, NONE), [(0, 0), (1, 1), (2, 2)])
        self.assertEqual(walked_pairs(first.rooted(2), second.rooted(2), NONE), [(2, 2)])
        self.assertEqual(walked_pairs(first.rooted(2, old=0), second.rooted(2, old=1), Manners("old")),
                         [(2, 2), (0, 1)])

    def test_no_duplicates(self):
        web = node_web({"next": 0, "all": [0, 0, 0]}, old=0)
        self.assertEqual(walked_pairs(web, web, Manners("old")), [(0, 0)])
        both = node_web({"next": 1}, {"next": 0}, old=1)
        self.assertEqual(walked_pairs(both, both, Manners("old")), [(0, 0), (1, 1)])

    def test_a_plain_walk(self):
        chance = random.Random(21)
        for _ in range(80):
            first = some_web(chance, chance.randrange(1, 6), old=True, marks=1)
            second = chance.choice([folded, lambda web: shuffled(chance, web)])(first)
            for manners in (NONE, Manners("old"), Manners("ask", "set")):
                self.assertEqual(walked_pairs(first, second, manners), plain_walk(first, second, manners))

    def test_it_is_new(self):
        web = node_web({})
        walked_pairs(web, web, NONE).clear()
        self.assertEqual(walked_pairs(web, web, NONE), [(0, 0)])


class TestMovable(unittest.TestCase):
    def movable(self, kind, manners=NONE, *, extra=(), old=None, **values):
        """Whether thing 1 of this kind is movable; the root holds it and the extra things."""
        things = [("Root", {"all": list(range(1, 2 + len(extra)))}), (kind, values), *extra, ("Leaf", {})]
        return is_movable(Web(ice_house(), things, old=old), 1, manners)

    def test_frozen(self):
        self.assertIs(self.movable("Ice"), False)
        self.assertIs(self.movable("Ice", to=2), False)

    def test_marks(self):
        self.assertIs(self.movable("Root"), True)
        self.assertIs(self.movable("Tag"), False)
        self.assertIs(self.movable("Card"), True)

    def test_what_holds_something(self):
        self.assertIs(self.movable("Bag", all=[2]), True)
        self.assertIs(self.movable("Bag"), False)
        self.assertIs(self.movable("Hook", to=2, extra=[("Tag", {})]), True)
        self.assertIs(self.movable("Pair", to=2, extra=[("Tag", {})]), True)
        self.assertIs(self.movable("Ring", to=1), True)
        self.assertIs(self.movable("Leaf"), False)

    def test_empty_links(self):
        # A thing that the roots reach, also the thing itself, must be of an admitted kind.
        self.assertIs(self.movable("Ring"), True)
        self.assertIs(self.movable("Hook"), False)
        self.assertIs(self.movable("Hook", extra=[("Leaf", {})]), False)
        self.assertIs(self.movable("Hook", extra=[("Tag", {})]), True)
        self.assertIs(self.movable("Hook", extra=[("Card", {})]), False)
        self.assertIs(self.movable("Pair"), False)
        self.assertIs(self.movable("Pair", extra=[("Leaf", {})]), True)
        # An empty list cannot be filled.
        self.assertIs(self.movable("Bag", extra=[("Leaf", {})]), False)

    def test_old(self):
        house = ice_house()
        things = [("Root", {"all": [1]}), ("Hook", {}), ("Tag", {}), ("Root", {"all": [2]})]
        for manners in Manners.every():
            self.assertIs(is_movable(Web(house, things, old=3), 1, manners), "old" in manners)
        self.assertIs(is_movable(Web(house, things, here=3, old=0), 1, NONE), True)

    def test_a_thing_that_is_not_reached(self):
        web = Web(ice_house(), [("Root", {}), ("Ring", {}), ("Ring", {"to": 2}), ("Hook", {}), ("Tag", {})])
        self.assertEqual([is_movable(web=web, thing=thing, manners=NONE) for thing in range(5)],
                         [True, False, True, False, False])

    def test_wrong_things(self):
        web = town_web()
        for value in any_values() + [8]:
            self.assertIs(raised(BadWeb, is_movable, web, value, NONE).thing, value)

    def test_plainly(self):
        chance = random.Random(22)
        house = ice_house()
        for _ in range(100):
            web = some_web(chance, 4, house=house, kinds=house.names, old=True)
            for thing in range(4):
                for manners in (NONE, Manners("old")):
                    self.assertIs(is_movable(web, thing, manners), plain_movable(web, thing, manners))


class TestMatching(unittest.TestCase):
    def check(self, first, second, told):
        """Told has the sets of manners for which the webs are not alike."""
        for manners in Manners.every():
            if "old" in manners and (first.old is None or second.old is None):
                continue
            expected = manners.names not in told
            self.assertIs(alike(first, second, manners), expected, manners.names)
            self.assertIs(alike(first=second, second=first, manners=manners), expected, manners.names)
            pairs = matching(first=first, second=second, manners=manners)
            self.assertEqual(pairs, sorted(walked_pairs(first, second, manners)) if expected else None)

    ASK = [("ask",), ("ask", "old"), ("ask", "set"), ("ask", "old", "set")]
    SET = [("set",), ("old", "set")]
    OLD = [("old",)]

    def test_equal_webs(self):
        web = town_web().rooted(0, old=5)
        self.check(web, web, [])
        self.check(web, shuffled(random.Random(1), web), [])

    def test_unequal_sights(self):
        self.check(node_web({"next": 0}, old=0), node_web({"next": 0, "age": 1}, old=0),
                   [()] + self.ASK + self.SET + self.OLD)
        # Only old reaches what is unlike.
        self.check(node_web({}, {"age": 1}, old=1), node_web({}, {"age": 2}, old=1),
                   self.OLD + [("ask", "old"), ("old", "set"), ("ask", "old", "set")])

    def test_shared_and_torn(self):
        self.check(node_web({"next": 1, "all": [1]}, {}, old=0), node_web({"next": 1, "all": [2]}, {}, {}, old=0),
                   self.ASK + self.SET)
        self.check(node_web({"next": 0}, old=0), node_web({"next": 1}, {"next": 0}, old=0), self.ASK + self.SET)

    def test_torn_things_that_are_not_movable(self):
        house = ice_house()
        for kind, values, movable in [("Ice", {}, False), ("Tag", {}, False), ("Leaf", {}, False), ("Card", {}, True),
                                      ("Bag", {}, False), ("Hook", {}, False), ("Ring", {}, True)]:
            one = Web(house, [("Root", {"all": [1, 1]}), (kind, values)], old=0)
            two = Web(house, [("Root", {"all": [1, 2]}), (kind, values), (kind, values)], old=0)
            self.check(one, two, self.ASK + (self.SET if movable else []))

    def test_old_alone_tells(self):
        self.check(node_web({}, old=0), node_web({}, {}, old=1),
                   [("ask", "old"), ("ask", "old", "set"), ("old", "set")])
        # With old among the manners what only old reaches makes a thing movable.
        house = ice_house()
        one = Web(house, [("Bag", {}), ("Hook", {}), ("Tag", {})], here=1, old=2)
        self.check(one, one, [])
        first = Web(house, [("Root", {"all": [1, 1]}), ("Hook", {}), ("Tag", {})], old=2)
        second = Web(house, [("Root", {"all": [1, 3]}), ("Hook", {}), ("Tag", {}), ("Hook", {})], old=2)
        self.check(first, second, self.ASK + [("old", "set")])

    def test_plainly(self):
        chance = random.Random(23)
        seen = {True: 0, False: 0}
        for at in range(300):
            house = (NODE, ice_house())[at % 2]
            first = some_web(chance, chance.randrange(1, 6), house=house, kinds=house.names, old=True, marks=1)
            second = folded(first)
            if chance.random() < 0.5 and first.steps(first.here):
                second = twinned(first, first.here, chance.choice(first.steps(first.here)))
            for manners in Manners.every():
                expected = plain_alike(first, second, manners)
                seen[expected] += 1
                self.assertIs(alike(first, second, manners), expected)
                pairs = matching(first, second, manners)
                if expected:
                    self.assertEqual(pairs, sorted(plain_walk(first, second, manners)))
                    ranks = Ranks(first, second)
                    self.assertTrue(all(pair in ranks for pair in pairs))
                else:
                    self.assertIsNone(pairs)
                for fewer in Manners.every():
                    if expected and fewer.within(manners):
                        self.assertTrue(alike(first, second, fewer))
            self.assertIs(alike(first, second, Manners("ask")), alike(first, second, Manners("ask", "set")))
        self.assertGreater(min(seen.values()), 300)

    def test_no_client_tells_alike_webs_apart(self):
        chance = random.Random(24)
        for _ in range(150):
            first = some_web(chance, chance.randrange(1, 5), old=True, marks=1)
            second = folded(first)
            for manners in Manners.every():
                if alike(first, second, manners):
                    client = some_client(chance, 14, manners)
                    self.assertIsNone(first_difference(client, first, second))


class TestTwins(unittest.TestCase):
    def test_by_hand(self):
        web = node_web({"next": 1, "all": [1, 2]}, {"age": 3, "next": 2, "all": [0]}, {}, here=2, old=0)
        self.assertEqual(twinned(web, 0, ("next", None)),
                         node_web({"next": 3, "all": [1, 2]}, {"age": 3, "next": 2, "all": [0]}, {},
                                  {"age": 3, "next": 2, "all": [0]}, here=2, old=0))
        self.assertEqual(twinned(web=web, thing=0, step=("all", 0)),
                         node_web({"next": 1, "all": [3, 2]}, {"age": 3, "next": 2, "all": [0]}, {},
                                  {"age": 3, "next": 2, "all": [0]}, here=2, old=0))
        self.assertEqual(len(web), 3)

    def test_a_thing_that_holds_itself(self):
        self.assertEqual(twinned(node_web({"next": 0, "all": [0, 0]}), 0, ("next", None)),
                         node_web({"next": 1, "all": [0, 0]}, {"next": 0, "all": [0, 0]}))
        self.assertEqual(twinned(node_web({"next": 0, "all": [0, 0]}), 0, ("all", 1)),
                         node_web({"next": 0, "all": [0, 1]}, {"next": 0, "all": [0, 0]}))

    def test_wrong_things_and_steps(self):
        web = node_web({"next": 1, "all": [1, 0]}, {})
        for value in any_values() + [2]:
            self.assertIs(raised(BadWeb, twinned, web, value, ("next", None)).thing, value)
            self.assertIs(raised(BadWeb, twinned, web, 0, value).thing, 0)
        for step in [("next", 0), ("all", 2), ("all", True), ("all", None), ("all", -1), ("age", None), ("no", None),
                     ["next", None], ("next",)]:
            self.assertEqual(raised(BadWeb, twinned, web, 0, step).thing, 0)
        self.assertEqual(raised(BadWeb, twinned, web, 1, ("next", None)).thing, 1)

    def test_who_tells_the_two_webs_apart(self):
        chance = random.Random(25)
        for at in range(150):
            house = (NODE, ice_house())[at % 2]
            web = some_web(chance, chance.randrange(1, 6), house=house, kinds=house.names, old=True, marks=1)
            thing = chance.randrange(len(web))
            if not web.steps(thing):
                continue
            step = chance.choice(web.steps(thing))
            twin = twinned(web, thing, step)
            held = web.follow(thing, step)
            self.assertTrue(alike(web, twin, NONE) and alike(web, twin, Manners("old")))
            for manners in Manners.every():
                both = "old" in manners
                if thing in web.reached(both=both):
                    told = held in twin.reached(both=both)
                    self.assertIs(not alike(web, twin, manners | Manners("ask")), told)
                    if "ask" not in manners and "set" in manners:
                        self.assertIs(not alike(web, twin, manners), told and is_movable(web, held, manners))


if __name__ == "__main__":
    unittest.main()
