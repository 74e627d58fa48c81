"""[1.6] to [1.8]: webs, steps and ways, the order of meeting."""

import unittest

from tests.samples import any_values, chain, link, many, mark, nested, node_house, raised, town_house, town_web
from waypairs.errors import BadWeb, UnknownField
from waypairs.kinds import House, Kind
from waypairs.webs import Web

NODE = node_house()
NO_NUMBERS = [value for value in any_values() if value is not None] + ["0", 0.0, 10 ** 39]


def node_web(*values, **roots):
    return Web(NODE, [("Node", one) for one in values], **roots)


class TestMaking(unittest.TestCase):
    def refused(self, thing, house, things, **roots):
        error = raised(BadWeb, Web, house, things, **roots)
        self.assertEqual((error.thing, type(error.thing)), (thing, int))

    def test_class_values(self):
        self.assertEqual((Web.THINGS, Web.PLACES), (4000, 200))

    def test_attributes(self):
        web = Web(NODE, [("Node", {}), ("Node", {})], here=1, old=0)
        self.assertEqual((web.house, web.here, web.old), (NODE, 1, 0))
        web = Web(house=NODE, things=(("Node", {}),))
        self.assertEqual((web.here, web.old, len(web)), (0, None, 1))

    def test_values_left_out(self):
        house = House("A", [Kind("A", [mark("a", default=-8), link("b"), many("c")])])
        web = Web(house, [("A", {})])
        self.assertEqual((web[0, "a"], web[0, "b"], web[0, "c"]), (-8, None, []))
        self.assertEqual(web.things(), [("A", {"a": -8, "b": None, "c": []})])
        self.assertEqual(list(web.things()[0][1]), ["a", "b", "c"])
        web = Web(house, [("A", {"c": (0, 0), "b": 0, "a": 1})])
        self.assertEqual(list(web.things()[0][1].items()), [("a", 1), ("b", 0), ("c", [0, 0])])

    def test_things_is_no_list_of_entries(self):
        for things in [[], (), None, {}, "", 3, ("Node"), {0: ("Node", {})}]:
            self.refused(-1, NODE, things)
        for value in any_values():
            if not isinstance(value, (list, tuple)) or not value:
                self.refused(-1, NODE, value)
            self.refused(0, NODE, [value])
            self.refused(1, NODE, [("Node", {}), value])

    def test_number_of_things(self):
        self.assertEqual(len(Web(NODE, [("Node", {})] * 4000)), 4000)
        self.assertEqual(len(Web(NODE, (("Node", {}),) * 4000, here=3999)), 4000)
        self.refused(-1, NODE, [("Node", {})] * 4001)
        self.refused(-1, NODE, [None] * 4001)

    def test_entries(self):
        for entry in [("Node",), ("Node", {}, {}), ["Node", {}], ("None", {}), ("node", {}), ("Node", None),
                      ("Node", []), ({}, "Node"), (["Node"], {}), (True, {}), (None, {}), "Node", ("Node", "age"),
                      ("any", {}), ("Node", {"no": 1}), ("Node", {"Age": 1}), ("Node", {("age",): 1}),
                      ("Node", {("age", "next"): 1}), ("Node", {"age": 1, "x": None})]:
            self.refused(0, NODE, [entry])
            self.refused(2, NODE, [("Node", {}), ("Node", {}), entry, ("Node", {})])
            self.refused(1, NODE, [("Node", {}), entry, ("Node", {"age": None})])

    def test_marks(self):
        for value in [0, -1, 10 ** 30 - 1, 1 - 10 ** 30]:
            self.assertEqual(node_web({"age": value})[0, "age"], value)
        for value in [10 ** 30, -10 ** 30, True, False, None, "1", [1], (1,), 1.0]:
            self.refused(0, NODE, [("Node", {"age": value})])
        for value in any_values():
            if value != -1:
                self.refused(1, NODE, [("Node", {}), ("Node", {"age": value})])

    def test_links(self):
        self.assertEqual(node_web({"next": 1}, {"next": None})[0, "next"], 1)
        for value in [-1, 2, True, False, "0", [0], (0,), [], (), {}, 1.0, 10 ** 40 - 1]:
            self.refused(1, NODE, [("Node", {}), ("Node", {"next": value})])
        for value in any_values():
            if value is not None:
                self.refused(0, NODE, [("Node", {"next": value}), ("Node", {})])

    def test_lists(self):
        self.assertEqual(node_web({"all": [1, 0, 1]}, {"all": ()})[0, "all"], [1, 0, 1])
        self.assertEqual(node_web({"all": (1, 0, 1)}, {})[0, "all"], [1, 0, 1])
        for value in [None, 0, "", "0", {}, {0: 0}, [-1], [2], [True], [False], [None], ["0"], [[0]], [0, 0, 2],
                      (0, -1)]:
            self.refused(0, NODE, [("Node", {"all": value}), ("Node", {})])
        for value in any_values():
            self.refused(0, NODE, [("Node", {"all": [0, value]})])
            if value not in ([], (), [0], (0,)):
                self.refused(0, NODE, [("Node", {"all": value})])

    def test_number_of_places(self):
        for places in ([0] * 200, (0,) * 200):
            self.assertEqual(len(node_web({"all": places})[0, "all"]), 200)
        for places in ([0] * 201, (0,) * 201):
            self.refused(1, NODE, [("Node", {}), ("Node", {"all": places})])

    def test_targets(self):
        house = town_house()
        Web(house, [("Town", {"mayor": 1}), ("Clerk", {}), ("Person", {})])
        Web(house, [("Town", {"mayor": 2, "parts": [0, 1, 2]}), ("Clerk", {}), ("Person", {})])
        self.refused(0, house, [("Town", {"mayor": 0})])
        self.refused(1, house, [("Town", {}), ("Clerk", {"papers": [2, 0]}), ("Paper", {})])
        house = House("A", [Kind("A", [link("a", "Heir"), many("b", "Heir")]), Kind("Base", [], heirs=True),
                            Kind("Heir", [], base="Base"), Kind("Other", [], base="Base")])
        Web(house, [("A", {"a": 1, "b": [1]}), ("Heir", {})])
        for kind in ("Base", "Other"):
            self.refused(0, house, [("A", {"a": 1}), (kind, {})])
            self.refused(0, house, [("A", {"b": [1]}), (kind, {})])

    def test_an_earlier_and_a_later_wrong_entry(self):
        # A number is right if the entry there only begins with an admitted kind: then that entry is the wrong one.
        self.refused(1, NODE, [("Node", {"next": 1}), ("Node", {"age": None})])
        self.refused(1, NODE, [("Node", {"next": 1}), ("Node", None)])
        self.refused(0, NODE, [("Node", {"next": 1}), ("None", {})])
        self.refused(0, NODE, [("Node", {"next": 1}), ["Node", {}]])
        self.refused(0, NODE, [("Node", {"all": [1]}), ("Node", {}, {})])
        self.refused(0, NODE, [("Node", {"all": [0, 1]}), None])
        self.refused(0, NODE, [("Node", {"age": True}), ("Node", {"age": True})])
        self.refused(1, NODE, [("Node", {}), ("Node", {"age": True}), None])

    def test_roots(self):
        two = [("Node", {}), ("Node", {})]
        for here in [2, -1, True, False, None, "0", 0.0, [0], (0,)]:
            self.refused(-1, NODE, two, here=here)
        for old in [2, -1, True, False, "0", 0.0, [0], (0,)]:
            self.refused(-1, NODE, two, old=old)
        for value in any_values():
            self.refused(-1, NODE, two, here=value)
            if value is not None:
                self.refused(-1, NODE, two, old=value)
        # A wrong entry comes first.
        self.refused(1, NODE, [("Node", {}), ("Node", {"next": 5})], here=9)

    def test_copies_in(self):
        values = {"all": [0]}
        things = [("Node", values)]
        web = Web(NODE, things)
        values["all"].append(0)
        values["age"] = 4
        things.append(("Node", {}))
        self.assertEqual((len(web), web.things()), (1, [("Node", {"age": 0, "next": None, "all": [0]})]))

    def test_equality(self):
        def made(**roots):
            return node_web({"age": 1, "next": 1}, {"all": (0, 1)}, **roots)
        self.assertEqual(made(), made(here=0))
        self.assertEqual(made(), Web(node_house(), [("Node", {"next": 1, "age": 1, "all": []}),
                                                    ("Node", {"next": None, "all": [0, 1]})]))
        different = [made(), made(here=1), made(old=0), made(old=1), node_web({"age": 1, "next": 1}, {"all": [0]}),
                     node_web({"age": 2, "next": 1}, {"all": [0, 1]}), node_web({"age": 1}, {"all": [0, 1]}),
                     node_web({"age": 1, "next": 1}, {"all": [0, 1]}, {}), None, 3]
        for at, one in enumerate(different):
            for other in different[:at]:
                self.assertNotEqual(one, other)
        other = House("Node", [*[NODE.kind_named("Node")], Kind("More", [])])
        self.assertNotEqual(Web(NODE, [("Node", {})]), Web(other, [("Node", {})]))
        more = House("A", [Kind("A", []), Kind("B", [])])
        self.assertNotEqual(Web(more, [("A", {})]), Web(more, [("B", {})]))


class TestLooking(unittest.TestCase):
    def setUp(self):
        self.web = town_web()

    def test_numbers_of_things(self):
        self.assertEqual(len(self.web), 8)
        for thing in range(8):
            self.assertIs(thing in self.web, True)
        for value in NO_NUMBERS + [None, 8, -8]:
            self.assertIs(value in self.web, False)
        self.assertIs(True in node_web({}, {}), False)

    def test_wrong_things(self):
        web = self.web
        for value in NO_NUMBERS + [8, -8]:
            for call in [lambda thing: web.kind_of(thing=thing), web.kind_of, web.steps,
                         lambda thing: web.follow(thing, 3), lambda thing: web[thing, "size"],
                         lambda thing: web[thing, 3], lambda thing: web.thing_at([3], start=thing),
                         lambda thing: web.thing_at([], start=thing),
                         lambda thing: web.with_value(thing, "no", None)]:
                self.assertIs(raised(BadWeb, call, value).thing, value)
        self.assertIsNone(raised(BadWeb, web.kind_of, None).thing)

    def test_kinds_and_values(self):
        self.assertEqual([self.web.kind_of(thing) for thing in range(3)], ["Town", "Person", "Clerk"])
        self.assertEqual((self.web[0, "size"], self.web[0, "mayor"], self.web[0, "parts"]), (3, 1, [2, 5, 6, 2]))
        self.assertEqual((self.web[2, "age"], self.web[1, "friend"], self.web[4, "stamp"]), (30, 2, None))
        for field in any_values() + ["desk", "parts"]:
            error = raised(UnknownField, lambda name: self.web[1, name], field)
            self.assertEqual(error.kind, "Person")
            self.assertIs(error.name, field)

    def test_things(self):
        things = self.web.things()
        self.assertEqual(things[2], ("Clerk", {"age": 30, "friend": 1, "desk": 8, "papers": [3, 4]}))
        self.assertEqual(list(things[2][1]), ["age", "friend", "desk", "papers"])
        self.assertEqual([kind for kind, _ in things][6:], ["Judge", "Stamp"])
        self.assertIsInstance(things[0], tuple)

    def test_what_is_told_is_new(self):
        things = self.web.things()
        things[0][1]["parts"].clear()
        things[0][1]["size"] = 99
        things.pop()
        self.web[0, "parts"].clear()
        self.web.steps(0).clear()
        self.web.reached().clear()
        self.assertEqual(self.web, town_web())
        self.assertEqual(len(self.web.steps(0)), 5)

    def test_it_is_not_iterated_over(self):
        with self.assertRaises(TypeError):
            iter(self.web)

    def test_steps(self):
        self.assertEqual(self.web.steps(0), [("mayor", None), ("parts", 0), ("parts", 1), ("parts", 2), ("parts", 3)])
        self.assertEqual(self.web.steps(thing=2), [("friend", None), ("papers", 0), ("papers", 1)])
        self.assertEqual(self.web.steps(4), [])
        self.assertEqual(self.web.steps(5), [])

    def test_follow(self):
        self.assertEqual([self.web.follow(0, step) for step in self.web.steps(0)], [1, 2, 5, 6, 2])
        self.assertEqual(self.web.follow(thing=2, step=("papers", 1)), 4)
        for step in any_values() + [("parts", 4), ("parts", -1), ("parts", True), ("parts", False), ("parts", None),
                                    ("parts", "0"), ("mayor", 0), ("mayor", False), ("mayor", 1), ("size", None),
                                    ("size", 0), ("no", None), ["mayor", None], ("mayor",), ("mayor", None, None),
                                    "mayor", (["mayor"], None), ("parts", 0.0), ("parts", 10 ** 30)]:
            self.assertIsNone(self.web.follow(0, step), step)
        self.assertIsNone(self.web.follow(4, ("stamp", None)))
        self.assertIsNone(self.web.follow(3, ("page", None)))

    def test_thing_at(self):
        way = [("parts", 3), ("papers", 0), ("stamp", None)]
        self.assertEqual(self.web.thing_at(way), 7)
        self.assertEqual(self.web.thing_at(tuple(way)), 7)
        self.assertEqual(self.web.thing_at(way=way[1:], start=2), 7)
        self.assertEqual((self.web.thing_at([]), self.web.thing_at((), start=4)), (0, 4))
        self.assertEqual(self.web.thing_at([("court", None)], start=6), 0)
        self.assertIsNone(self.web.thing_at([*way, ("stamp", None)]))
        self.assertIsNone(self.web.thing_at([("stamp", None), *way]))
        for value in any_values():
            self.assertIsNone(self.web.thing_at([value]))
            self.assertIsNone(self.web.thing_at([("mayor", None), value, ("friend", None)]))
        self.assertEqual(self.web.rooted(3).thing_at([("stamp", None)]), 7)


class TestMeeting(unittest.TestCase):
    def test_breadth_first(self):
        web = node_web({"next": 3, "all": [1, 2, 1]}, {"all": [5, 4]}, {"next": 0}, {"next": 4, "all": [6]},
                       {}, {"next": 7}, {}, {}, {"next": 0})
        self.assertEqual(web.reached(), [0, 3, 1, 2, 4, 6, 5, 7])
        self.assertEqual(web.rooted(1).reached(), [1, 5, 4, 7])
        self.assertEqual(town_web().reached(), [0, 1, 2, 5, 6, 3, 4, 7])

    def test_both(self):
        web = node_web({"next": 1}, {}, {"all": [1, 4, 3]}, {"next": 2}, {"next": 0}, {}, here=0, old=2)
        self.assertEqual(web.reached(), [0, 1])
        self.assertEqual(web.reached(both=False), [0, 1])
        self.assertEqual(web.reached(both=True), [0, 1, 2, 4, 3])
        self.assertEqual(web.rooted(0).reached(both=True), [0, 1])
        self.assertEqual(web.rooted(0, old=1).reached(both=True), [0, 1])
        self.assertEqual(web.rooted(0, old=5).reached(both=True), [0, 1, 5])

    def test_trimmed(self):
        web = node_web({"age": 4}, {"age": 1, "next": 3, "all": [2, 3]}, {"age": 3, "next": 1}, {"age": 2},
                       {"age": 5, "all": [4, 2]}, here=1)
        self.assertEqual(web.trimmed(), node_web({"age": 1, "next": 1, "all": [2, 1]}, {"age": 2},
                                                 {"age": 3, "next": 0}))
        self.assertEqual(web.rooted(1, old=4).trimmed(),
                         node_web({"age": 1, "next": 1, "all": [2, 1]}, {"age": 2}, {"age": 3, "next": 0},
                                  {"age": 5, "all": [3, 2]}, old=3))
        self.assertEqual(web.rooted(1, old=2).trimmed().old, 2)
        self.assertEqual(web.rooted(3, old=3).trimmed(), node_web({"age": 2}, old=0))
        self.assertEqual(len(web), 5)

    def test_trimming_twice(self):
        web = town_web()
        self.assertEqual(web.trimmed().trimmed(), web.trimmed())
        self.assertEqual(web.trimmed().reached(), list(range(8)))

    def test_rings_and_chains_of_thousands(self):
        line = chain(NODE, "Node", "next", 4000)
        self.assertEqual(line.reached(), list(range(4000)))
        self.assertEqual(line.thing_at([("next", None)] * 3999), 3999)
        self.assertIsNone(line.thing_at([("next", None)] * 4000))
        self.assertEqual(line.trimmed(), line)
        ring = chain(NODE, "Node", "next", 4000, ring=True)
        self.assertEqual(ring.rooted(7).reached()[-1], 6)
        self.assertEqual(ring.thing_at([("next", None)] * 4001), 1)
        self.assertEqual(ring.rooted(7).trimmed(), ring)
        self.assertNotEqual(ring, line)
        self.assertEqual(ring.with_value(3999, "next", None), line)


class TestChanging(unittest.TestCase):
    def test_with_value(self):
        web = node_web({"age": 1, "next": 1, "all": [0]}, {}, old=1)
        self.assertEqual(web.with_value(0, "age", -9), node_web({"age": -9, "next": 1, "all": [0]}, {}, old=1))
        self.assertEqual(web.with_value(thing=0, field="next", value=None), node_web({"age": 1, "all": [0]}, {}, old=1))
        self.assertEqual(web.with_value(1, "next", 1)[1, "next"], 1)
        self.assertEqual(web.with_value(0, "all", (1, 1))[0, "all"], [1, 1])
        self.assertEqual(web.with_value(0, "all", [1] * 200)[0, "all"], [1] * 200)
        self.assertEqual(web, node_web({"age": 1, "next": 1, "all": [0]}, {}, old=1))
        places = [1]
        other = web.with_value(0, "all", places)
        places.append(0)
        self.assertEqual(other[0, "all"], [1])

    def test_wrong_values(self):
        web = node_web({"next": 1}, {})
        for field, values in [("age", [10 ** 30, None, True, "1"]), ("next", [2, -1, True, "0", [0], ()]),
                              ("all", [None, 0, [2], [True], [0] * 201, (0,) * 201, "", [None]])]:
            for value in values:
                self.assertEqual(raised(BadWeb, web.with_value, 1, field, value).thing, 1)
        for value in any_values():
            if value is not None:
                self.assertEqual(raised(BadWeb, web.with_value, 1, "next", value).thing, 1)
            error = raised(UnknownField, web.with_value, 1, value, 10 ** 30)
            self.assertEqual(error.kind, "Node")
            self.assertIs(error.name, value)
        self.assertEqual(raised(BadWeb, town_web().with_value, 0, "mayor", 0).thing, 0)
        self.assertEqual(raised(BadWeb, web.with_value, 2, "no", None).thing, 2)

    def test_rooted(self):
        web = node_web({"next": 1}, {"age": 2}, here=0, old=1)
        self.assertEqual(web.rooted(1), node_web({"next": 1}, {"age": 2}, here=1))
        self.assertEqual(web.rooted(here=1, old=0), node_web({"next": 1}, {"age": 2}, here=1, old=0))
        self.assertEqual((web.here, web.old), (0, 1))
        for value in any_values() + [2]:
            self.assertEqual(raised(BadWeb, web.rooted, value).thing, -1)
            if value is not None:
                self.assertEqual(raised(BadWeb, web.rooted, 0, old=value).thing, -1)


class TestWays(unittest.TestCase):
    def test_order(self):
        web = node_web({"next": 1, "all": [2, 0]}, {"all": [0]}, {"next": 1})
        a, b, c = ("next", None), ("all", 0), ("all", 1)
        expected = [[], [a], [b], [c], [a, b], [b, a], [c, a], [c, b], [c, c], [a, b, a], [a, b, b], [a, b, c],
                    [b, a, b], [c, a, b], [c, b, a], [c, c, a]]
        self.assertEqual(list(web.ways(16)), expected)
        for most in range(16):
            self.assertEqual(list(web.ways(most)), expected[:most])
        self.assertEqual(list(web.ways(most=2)), [[], [a]])

    def test_all_if_there_are_fewer(self):
        web = node_web({"next": 1}, {"next": 2, "all": [2]}, {})
        a, b = ("next", None), ("all", 0)
        self.assertEqual(list(web.ways(200)), [[], [a], [a, a], [a, b]])
        self.assertEqual(list(node_web({}).ways(5)), [[]])
        self.assertEqual(list(web.rooted(2).ways(5)), [[]])
        self.assertEqual(list(web.rooted(1).ways(5)), [[], [a], [b]])

    def test_long_and_wide(self):
        ring = chain(NODE, "Node", "next", 3, ring=True)
        ways = list(ring.ways(200))
        self.assertEqual([len(way) for way in ways], list(range(200)))
        wide = node_web({"all": [0] * 200})
        self.assertEqual(list(wide.ways(200)), [[]] + [[("all", place)] for place in range(199)])
        self.assertEqual([ring.thing_at(way) for way in ways[:4]], [0, 1, 2, 0])

    def test_it_is_a_generator_of_new_lists(self):
        ring = chain(NODE, "Node", "next", 3, ring=True)
        told = []
        for way in ring.ways(4):
            told.append(list(way))
            way.append("changed")
        self.assertEqual([len(way) for way in told], [0, 1, 2, 3])
        self.assertEqual(told[3], [("next", None)] * 3)
        generator = ring.ways(2)
        self.assertIs(iter(generator), generator)

    def test_a_plain_search(self):
        web = town_web()
        found = [[]]
        for length in range(12):
            for way in [way for way in found if len(way) == length]:
                found.extend(way + [step] for step in web.steps(web.thing_at(way)))
        self.assertEqual(list(web.ways(130)), found[:130])


class TestDepth(unittest.TestCase):
    def test_deep_values(self):
        self.assertEqual(raised(BadWeb, Web, NODE, nested(8)).thing, 0)


if __name__ == "__main__":
    unittest.main()
