"""[8.1], [8.2]: copied steps, entered kinds, and the entry graph."""

import random
import unittest

from tests.drawn import drawn_edition, drawn_house, drawn_travel
from tests.plaingrowth import PlainEntries, drawn_layers
from tests.samples import any_values, link, many, mark, raised, town_house
from waypairs.entrygraph import EntryGraph, copied_steps
from waypairs.errors import UnknownKind
from waypairs.kinds import House, Kind
from waypairs.travels import Travel

HOUSE = House("Root", [
    Kind("Other", [link("c", "Part"), many("base", "Base")]),
    Kind("Root", [mark("m"), many("z", "any"), link("a", "Part"), link("dot", "Dot")]),
    Kind("Part", [mark("p"), link("b", "Other")]),
    Kind("Base", [link("x", "Part")], heirs=True),
    Kind("Heir", [link("y", "Other")], base="Base"),
    Kind("Dot", []),
])


def travel(rules=None, **fates):
    """A travel in which only the given fields of the house go along; the fates of fields by their names."""
    given = {(kind, field.name): fates.get(field.name, "stays") for kind in HOUSE.names
             for field in HOUSE.kind_named(kind).fields if field.mode != "mark"}
    return Travel(HOUSE, fates=given, rules=rules)


class TestCopiedSteps(unittest.TestCase):
    def test_in_order(self):
        self.assertEqual(copied_steps(travel=travel(z="goes", a="new", dot="goes"), kind="Root"), [
            *[("z", kind) for kind in HOUSE.names], ("a", "Part"), ("dot", "Dot")])
        self.assertEqual(copied_steps(travel(base="new", c="goes"), "Other"),
                         [("c", "Part"), ("base", "Base"), ("base", "Heir")])

    def test_going_ones(self):
        one = travel(z="new", a="goes", dot="new", c="goes", base="goes")
        self.assertEqual(copied_steps(one, "Root", going=True), [("a", "Part")])
        self.assertEqual(len(copied_steps(one, "Root")), 8)
        self.assertEqual(copied_steps(one, "Other", going=True), copied_steps(one, "Other", going=False))

    def test_fields_that_are_not_copied(self):
        house = town_house()
        fates = {("Town", "mayor"): "lost", ("Town", "parts"): "stays", ("Paper", "stamp"): "new"}
        self.assertEqual(copied_steps(Travel(house, fates=fates), "Town"), [])
        self.assertEqual(copied_steps(Travel(house, fates=fates), "Paper"), [("stamp", "Stamp")])
        self.assertEqual(copied_steps(Travel(house), "Clerk"), [
            ("friend", "Person"), ("friend", "Clerk"), ("friend", "Judge"), ("papers", "Paper")])
        named = House("Root", [Kind("Root", [link("tag", "Tag"), link("key", "Tag")]),
                               Kind("Tag", [mark("k")], key="k", registered=True)])
        self.assertEqual(copied_steps(Travel(named, fates={("Root", "tag"): "named"}), "Root"), [("key", "Tag")])
        for kind in ("Dot", "Stamp", "Tag"):
            self.assertEqual(copied_steps(Travel(house), kind), [])

    def test_any_values(self):
        for value in any_values() + ["any", "root", ("Root",)]:
            self.assertEqual(raised(UnknownKind, copied_steps, travel(), value).name, value)


class Graphs(unittest.TestCase):
    def check(self, one):
        """Checks a graph against plain sets; the graph."""
        graph = EntryGraph(travel=one)
        plain = PlainEntries(one)
        names = one.source.names
        self.assertEqual(graph.entered, tuple(kind for kind in names if kind in plain.entered))
        edges = plain.ordered_edges()
        self.assertEqual((list(graph), len(graph)), (edges, len(edges)))
        for kind in names:
            if kind in plain.entered:
                self.assertEqual(graph.met(kind=kind), [other for other in names if other in plain.met(kind)])
                self.assertEqual(graph.leaving(kind=kind), [edge for edge in edges if edge[0] == kind])
            else:
                self.assertEqual(raised(UnknownKind, graph.met, kind).name, kind)
                self.assertEqual(raised(UnknownKind, graph.leaving, kind).name, kind)
        return graph


class TestGraphs(Graphs):
    def test_entered_kinds(self):
        self.assertEqual(self.check(travel()).entered, ("Root",))
        self.assertEqual(self.check(travel(a="new", c="goes")).entered, ("Root", "Part"))
        self.assertEqual(self.check(travel(a="goes", b="new")).entered, ("Other", "Root", "Part"))
        self.assertEqual(self.check(travel(a="goes", b="new", base="goes")).entered,
                         ("Other", "Root", "Part", "Base", "Heir"))
        self.assertEqual(self.check(travel(z="goes")).entered, HOUSE.names)
        self.assertEqual(self.check(travel(dot="new")).entered, ("Root", "Dot"))

    def test_edges_by_new(self):
        graph = self.check(travel(a="new", b="goes", c="goes"))
        self.assertEqual(list(graph), [("Root", "a", "Other"), ("Root", "a", "Part")])
        graph = self.check(travel(a="goes", b="new", c="goes", base="goes", y="goes"))
        self.assertEqual(list(graph), [("Part", "b", kind) for kind in ("Other", "Part", "Base", "Heir")])

    def test_edges_by_the_rule_never(self):
        graph = self.check(travel({"Part": "never"}, a="goes", b="goes", c="goes"))
        self.assertEqual(list(graph), [("Other", "c", "Part"), ("Root", "a", "Part")])
        graph = self.check(travel({"Base": "never", "Dot": "never"}, z="goes"))
        self.assertEqual(list(graph), [("Root", "z", kind) for kind in ("Base", "Heir", "Dot")])

    def test_each_edge_once(self):
        # By the rule of the kind itself, and by several kinds that the field admits.
        graph = self.check(travel({"Part": "never"}, z="new", a="goes", b="goes", c="goes"))
        edges = list(graph)
        self.assertEqual(len(set(edges)), len(edges))
        self.assertEqual([edge for edge in edges if edge[:2] == ("Root", "z")],
                         [("Root", "z", kind) for kind in HOUSE.names])

    def test_met_over_several_steps(self):
        graph = self.check(travel({"Part": "never"}, a="goes", b="goes", base="goes", dot="goes"))
        self.assertEqual(graph.met("Root"), ["Other", "Root", "Base", "Heir", "Dot"])
        self.assertEqual(graph.met("Part"), ["Other", "Base", "Heir"])
        self.assertEqual(graph.met("Dot"), ["Dot"])
        # A kind that is never known is met by nobody, itself neither.
        graph = self.check(travel({kind: "never" for kind in HOUSE.names}, a="goes", b="goes"))
        self.assertEqual([graph.met(kind) for kind in graph.entered], [[], [], []])
        # A step by new leads no further in the same memo.
        self.assertEqual(self.check(travel(a="goes", b="new")).met("Root"), ["Root", "Part"])

    def test_any_values(self):
        graph = EntryGraph(travel(a="new", b="goes"))
        for value in any_values() + ["any", "Dot", "Base", ("Root",), ["Root"]]:
            self.assertEqual(raised(UnknownKind, graph.met, value).name, value)
            self.assertEqual(raised(UnknownKind, graph.leaving, value).name, value)

    def test_lists_are_new(self):
        graph = EntryGraph(travel(a="new", b="goes"))
        graph.met("Root").clear()
        graph.leaving("Root").clear()
        list(graph).clear()
        copied_steps(travel(a="new"), "Root").clear()
        self.assertEqual((graph.met("Root"), len(graph.leaving("Root")), len(graph)), (["Root"], 2, 2))
        self.assertFalse(graph == EntryGraph(travel(a="new", b="goes")))

    def test_saving_travels(self):
        reader = HOUSE.with_kinds([Kind("Other", [link("see", "Part", was=["c"])]), *[
            HOUSE.kind_named(name) for name in HOUSE.names[1:]]])
        one = Travel(HOUSE, fates={("Part", "b"): "new", ("Root", "z"): "lost"}, reader=reader)
        graph = self.check(one)
        # The fields are those of the source, also those that nobody takes.
        self.assertEqual(copied_steps(one, "Other"), [("c", "Part"), ("base", "Base"), ("base", "Heir")])
        self.assertEqual(list(graph), [("Part", "b", kind) for kind in ("Other", "Part", "Base", "Heir")])

    def test_drawn(self):
        chance = random.Random(82)
        for _ in range(150):
            house = drawn_house(chance)
            reader = drawn_edition(chance, house) if chance.random() < 0.3 else None
            self.check(drawn_travel(chance, house, reader=reader))
            self.check(drawn_layers(chance, 7))


if __name__ == "__main__":
    unittest.main()
