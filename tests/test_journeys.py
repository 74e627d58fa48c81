"""[6.7], [6.8]: journeys, and the ideal pair."""

import random
import unittest

from tests.drawn import drawn_home, drawn_house, drawn_row
from tests.samples import any_values, chain, link, many, mark, node_house, raised, town_house, town_web
from waypairs.errors import BadRow, BadWeb, Endless, TooLarge
from waypairs.journeys import ideal, journey
from waypairs.kinds import House, Kind
from waypairs.rows import Row
from waypairs.rules import fault
from waypairs.saved import saved
from waypairs.travels import Travel
from waypairs.webs import Web

NODE = node_house()
TOWN = town_house()
COPY = Travel(NODE)
TAG = Kind("Tag", [mark("code")], key="code", registered=True)
HOME = House("Root", [Kind("Root", [link("leaf", "Leaf"), link("tag", "Tag"), many("all")]),
                      Kind("Leaf", [mark("a"), link("tag", "Tag")]), TAG])
OTHER = House("Root", [Kind("Root", [many("things", was=["all"]), link("tag", "Tag")]),
                       Kind("Leaf", [mark("a"), link("name", "Tag", was=["tag"])]), TAG])


def home_web():
    return Web(HOME, [("Root", {"leaf": 1, "tag": 2, "all": [1, 3, 0]}), ("Leaf", {"a": 1, "tag": 2}),
                      ("Tag", {"code": 7}), ("Leaf", {"a": 2})])


def first():
    """Three travels: a leaf stays, then a tag is found by name, then all is copied."""
    return [Travel(HOME, fates={("Root", "leaf"): "stays", ("Root", "all"): "lost"}),
            Travel(HOME, fates={("Root", "tag"): "named"}), Travel(HOME)]


class TestLevels(unittest.TestCase):
    def test_attributes(self):
        row = Row([COPY, COPY])
        web = chain(NODE, "Node", "next", 3, ring=True)
        made = journey(row=row, web=web)
        self.assertEqual((made.travels, made.roots), (row.travels, (0, 3, 6)))
        self.assertEqual((len(made.heap), made.heap.root, made.heap.level, made.heap.is_busy), (9, 6, 2, False))
        for level in range(3):
            self.assertEqual(made.web_at(level=level), web)
            self.assertEqual(made.numbers_at(level=level), [3 * level + at for at in range(3)])

    def test_level_zero_is_numbered_as_met(self):
        web = Web(NODE, [("Node", {"all": [2, 1]}), ("Node", {"age": 1}), ("Node", {"age": 2})])
        made = journey([COPY], web)
        self.assertEqual(made.numbers_at(0), [0, 2, 1])
        self.assertEqual(made.web_at(0), web.trimmed())
        self.assertEqual(made.web_at(0)[1, "age"], 2)

    def test_what_stayed_and_was_found_by_name(self):
        made = journey(first(), home_web())
        # Level 1: root 4, the leaf of home, tag 5. Level 2: root 6, leaf 7, tag 8 of the leaf, tag 2 of the root.
        self.assertEqual(made.roots, (0, 4, 6, 9))
        self.assertEqual([made.numbers_at(level) for level in range(4)],
                         [[0, 1, 2, 3], [4, 1, 5, 2], [6, 7, 2, 8], [9, 10, 12, 11]])
        self.assertEqual(made.web_at(1).things(), [
            ("Root", {"leaf": 1, "tag": 2, "all": []}), ("Leaf", {"a": 1, "tag": 3}), ("Tag", {"code": 7}),
            ("Tag", {"code": 7})])
        self.assertEqual(made.came(), made.web_at(3))
        self.assertEqual([made.made_by(n) for n in (0, 2, 4, 5, 6, 7, 8, 9, 10, 11, 12)],
                         [(), (), (1,), (1,), (1, 2), (2,), (2,), (1, 2, 3), (2, 3), (2, 3), (3,)])

    def test_ways(self):
        made = journey(first(), home_web())
        tag = [("leaf", None), ("tag", None)]
        self.assertEqual([made.thing_at(level, tag) for level in range(4)], [2, 2, 8, 11])
        self.assertEqual([made.thing_at(level=level, way=()) for level in range(4)], [0, 4, 6, 9])
        self.assertEqual([made.thing_at(level, [("tag", None)]) for level in range(4)], [2, 5, 2, 12])
        self.assertEqual([made.thing_at(level, (("all", 1),)) for level in range(4)], [3, None, None, None])
        self.assertEqual(made.thing_at(0, [("all", 2), ("all", 2), ("leaf", None)]), 1)
        for value in any_values() + [("leaf", 0), ("all", None), ("all", 3), ("all", -1), ("no", None), ("a", None),
                                     ["leaf", None], ("all", True), ("leaf",), "leaf"]:
            self.assertIsNone(made.thing_at(0, [value]))
            self.assertIsNone(made.thing_at(0, [("leaf", None), value, ("tag", None)]))

    def test_any_values(self):
        made = journey(first(), home_web())
        for value in any_values() + [4, "0", (0,)]:
            for call in (made.web_at, made.numbers_at):
                self.assertIs(raised(BadRow, call, value).travel, value)
            self.assertIs(raised(BadRow, made.thing_at, value, [("no", None)]).travel, value)
        for value in any_values() + [13, "0", (0,)]:
            self.assertIs(raised(BadWeb, made.made_by, value).thing, value)

    def test_houses_of_levels(self):
        saving = Travel(HOME, reader=OTHER)
        back = Travel(OTHER, reader=HOME)
        made = journey([saving, Travel(OTHER), back], home_web())
        self.assertEqual([made.web_at(level).house for level in range(4)], [HOME, OTHER, OTHER, HOME])
        self.assertEqual(made.web_at(1).things()[0], ("Root", {"things": [1, 2, 0], "tag": 3}))
        self.assertEqual(made.web_at(1).things()[1], ("Leaf", {"a": 1, "name": 3}))
        self.assertEqual(made.thing_at(2, [("things", 0), ("name", None)]), made.numbers_at(2)[3])
        self.assertIsNone(made.thing_at(2, [("all", 0)]))
        self.assertEqual(made.came().things(), [("Root", {"leaf": None, "tag": 1, "all": []}), ("Tag", {"code": 7})])

    def test_a_thing_of_an_older_level_that_stayed(self):
        stays = Travel(HOME, fates={("Root", name): "stays" for name in ("leaf", "tag", "all")})
        made = journey([Travel(HOME), stays, stays, Travel(HOME)], home_web())
        leaf = made.thing_at(3, [("leaf", None)])
        self.assertEqual((made.heap.travel_of(leaf), made.made_by(leaf)), (1, (1,)))
        self.assertEqual(made.made_by(made.thing_at(4, [("leaf", None)])), (1, 4))
        self.assertEqual(made.made_by(made.roots[4]), (1, 2, 3, 4))
        # The older root is held by the list of the new one.
        self.assertEqual(made.thing_at(3, [("all", 2)]), made.roots[1])
        self.assertIn(made.roots[1], made.numbers_at(3))

    def test_named_behind_a_travel_that_copied(self):
        named = Travel(HOME, fates={("Root", "tag"): "named", ("Leaf", "tag"): "named"})
        made = journey([Travel(HOME), named, Travel(HOME)], home_web())
        self.assertEqual([made.thing_at(level, [("tag", None)]) == 2 for level in range(4)], [True, False, True, False])
        self.assertEqual(made.made_by(made.thing_at(3, [("tag", None)])), (3,))


class TestPair(unittest.TestCase):
    def test_nothing_in_common(self):
        made = journey([COPY], chain(NODE, "Node", "next", 2, ring=True))
        pair = made.pair()
        self.assertEqual((pair.here, pair.old, len(pair), made.pair_numbers()), (0, 2, 4, [2, 3, 0, 1]))
        self.assertEqual(pair.things()[2], ("Node", {"age": 0, "next": 3, "all": []}))
        self.assertEqual(pair, pair.trimmed())

    def test_what_is_the_very_same_stands_once(self):
        made = journey([Travel(HOME, fates={("Root", "leaf"): "stays", ("Root", "tag"): "named"})], home_web())
        pair = made.pair()
        numbers = made.pair_numbers()
        # The new root holds the leaf and the tag of home; the copy of the leaf in the list is another one.
        self.assertEqual(numbers[:3], [4, 1, 2])
        self.assertEqual(sorted(numbers[3:]), [0, 3, 5, 6, 7])
        self.assertEqual(numbers[pair.old], 0)
        self.assertEqual((pair.here, pair[0, "leaf"], pair[pair.old, "leaf"]), (0, 1, 1))
        self.assertEqual(pair, pair.trimmed())

    def test_lists_that_do_not_end_at_home(self):
        made = journey([Travel(HOME, reader=OTHER)], home_web())
        self.assertEqual(raised(BadRow, made.pair).travel, 1)
        self.assertEqual(raised(BadRow, made.pair_numbers).travel, 1)
        self.assertEqual(made.came().house, OTHER)
        made = journey([Travel(HOME), Travel(HOME, reader=OTHER), Travel(OTHER)], home_web())
        self.assertEqual(raised(BadRow, made.pair).travel, 3)

    def test_drawn(self):
        chance = random.Random(41)
        done = 0
        for _ in range(150):
            row = drawn_row(chance, drawn_house(chance), chance.randrange(1, 5))
            web = drawn_home(chance, row.home, 7)
            try:
                made = journey(row, web)
            except (Endless, TooLarge):
                continue
            done += 1
            pair, numbers = made.pair(), made.pair_numbers()
            self.assertEqual((pair, len(pair)), (pair.trimmed(), len(numbers)))
            self.assertEqual((numbers[0], numbers[pair.old], len(set(numbers))), (made.roots[-1], 0, len(numbers)))
            self.assertEqual(pair.rooted(pair.old).trimmed(), made.web_at(0))
            self.assertEqual(pair.rooted(0).trimmed(), made.came())
            for level in range(row.size + 1):
                found = made.web_at(level)
                self.assertEqual((found, found.here, found.old), (found.trimmed(), 0, None))
                self.assertEqual(found.house, row.houses()[level])
                self.assertEqual(made.numbers_at(level)[0], made.roots[level])
                for way in found.ways(30):
                    self.assertEqual(made.thing_at(level, way), made.numbers_at(level)[found.thing_at(way)])
            for n in range(len(made.heap)):
                expected = made.heap.origin_of(n)
                before = () if expected is None else made.made_by(expected)
                self.assertEqual(made.made_by(n), before + ((made.heap.travel_of(n),) if expected is not None else ()))
        self.assertGreater(done, 60)


class TestErrors(unittest.TestCase):
    def test_wrong_lists(self):
        for travels in ([], (), [COPY] * 5, [Travel(TOWN)] * 5):
            self.assertEqual(raised(BadRow, journey, travels, town_web()).travel, 0)
        for travels, wrong in [([COPY, Travel(TOWN)], 2), ([COPY, COPY, Travel(TOWN), COPY], 3),
                               ([COPY, COPY, COPY, Travel(TOWN)], 4), ((Travel(HOME, reader=OTHER), Travel(HOME)), 2)]:
            self.assertEqual(raised(BadRow, journey, travels, town_web()).travel, wrong)

    def test_wrong_webs(self):
        good = chain(NODE, "Node", "next", 3)
        self.assertEqual(raised(BadWeb, journey, [COPY], town_web()).thing, -1)
        self.assertEqual(raised(BadWeb, journey, Row([COPY]), town_web().rooted(1)).thing, -1)
        for web in (good.rooted(1), good.rooted(0, old=2), chain(NODE, "Node", "next", 61),
                    Web(NODE, good.things() + [("Node", {})])):
            self.assertEqual(raised(BadWeb, journey, Row([COPY]), web).thing, fault(web)[1])
            self.assertEqual(raised(BadWeb, ideal, web).thing, fault(web)[1])

    def test_endless_at_each_travel(self):
        ring = chain(NODE, "Node", "next", 2, ring=True)
        never = Travel(NODE, rules={"Node": "never"})
        for k in range(1, 5):
            for behind in range(5 - k):
                travels = [COPY] * (k - 1) + [never] + [COPY] * behind
                self.assertEqual(raised(Endless, journey, travels, ring).travel, k)
        lost = Travel(NODE, fates={("Node", "next"): "lost"})
        self.assertEqual(len(journey([lost, never], ring).came()), 1)

    def test_too_large(self):
        web = Web(NODE, [("Node", {"all": [at + 1, at + 1]}) for at in range(10)] + [("Node", {})])
        never = Travel(NODE, rules={"Node": "never"})
        self.assertEqual(len(journey([never], web).came()), 2047)
        self.assertEqual(raised(TooLarge, journey, [never, never], web).count, 4000)


class TestIdeal(unittest.TestCase):
    def test_registered_things(self):
        web = home_web()
        pair = ideal(web=web)
        self.assertEqual((pair.here, pair.old, len(pair)), (0, 4, 7))
        self.assertEqual(pair.things(), [
            ("Root", {"leaf": 1, "tag": 2, "all": [1, 3, 0]}), ("Leaf", {"a": 1, "tag": 2}), ("Tag", {"code": 7}),
            ("Leaf", {"a": 2, "tag": None}), ("Root", {"leaf": 5, "tag": 2, "all": [5, 6, 4]}),
            ("Leaf", {"a": 1, "tag": 2}), ("Leaf", {"a": 2, "tag": None})])

    def test_rings_and_shared_things(self):
        pair = ideal(chain(NODE, "Node", "next", 3, ring=True, age=2))
        self.assertEqual([pair[n, "next"] for n in range(6)], [1, 2, 0, 4, 5, 3])
        pair = ideal(Web(NODE, [("Node", {"all": [1, 1, 0]}), ("Node", {"next": 1})]))
        self.assertEqual((pair[0, "all"], pair[1, "next"], pair[2, "all"], pair[3, "next"]),
                         ([1, 1, 0], 1, [3, 3, 2], 3))

    def test_things_with_keys_that_are_not_registered(self):
        web = Web(TOWN, [("Town", {"parts": [1, 2]}), ("Note", {"line": 3}), ("Tag", {"code": 3})])
        pair = ideal(web)
        self.assertEqual([pair.kind_of(n) for n in range(len(pair))], ["Town", "Note", "Tag", "Town", "Note"])
        self.assertEqual((pair[0, "parts"], pair[3, "parts"]), ([1, 2], [4, 2]))

    def test_sizes(self):
        self.assertEqual(len(ideal(chain(NODE, "Node", "next", 60))), 120)
        self.assertEqual(len(ideal(Web(NODE, [("Node", {})]))), 2)

    def test_drawn(self):
        chance = random.Random(43)
        for _ in range(100):
            house = drawn_house(chance, with_kinds=["Tag"])
            web = drawn_home(chance, house, 8)
            pair = ideal(web)
            self.assertEqual(pair, pair.trimmed())
            self.assertEqual(saved(pair), saved(web))
            self.assertEqual(saved(pair.rooted(pair.old)), saved(web))
            here, old = pair.rooted(0).reached(), pair.rooted(pair.old).reached()
            common = [n for n in here if n in old]
            self.assertTrue(all(house.is_registered(pair.kind_of(n)) for n in common))
            self.assertTrue(all(n in common for n in here if house.is_registered(pair.kind_of(n))))
            # A row that copies everything and finds registered things by name gives the ideal pair.
            fates = {(kind, field.name): "named" for kind in house.names for field in house.kind_named(kind).fields
                     if field.mode != "mark" and field.target == "Tag"}
            others = [kind for kind in house.names for field in house.kind_named(kind).fields if field.target == "any"]
            if not others:
                self.assertEqual(journey([Travel(house, fates=fates)], web).pair(), pair)


if __name__ == "__main__":
    unittest.main()
