"""[6.1] to [6.3]: editions, the fields of two editions, leading a web."""

import random
import unittest

from tests.plain import some_web
from tests.samples import any_values, chain, link, many, mark, node_house, raised, town_house, town_web
from waypairs.editions import led, reader_fault, source_field
from waypairs.errors import BadReader, UnknownField, UnknownKind
from waypairs.kinds import Field, House, Kind
from waypairs.webs import Web

NODE = node_house()


def one_kind(*fields):
    return House("A", [Kind("A", fields), Kind("B", [])])


def changed_town(place, kind):
    """The town house with another kind at a place; None takes it away."""
    kinds = [town_house().kind_named(name) for name in town_house().names]
    kinds[place:place + 1] = [] if kind is None else [kind]
    return town_house().with_kinds(kinds)


class TestSourceField(unittest.TestCase):
    def taken(self, writer_fields, reader_fields, field):
        return source_field(one_kind(*writer_fields), one_kind(*reader_fields), "A", field)

    def test_its_own_name(self):
        self.assertEqual(self.taken([mark("a")], [mark("b"), mark("a")], "a"), "a")
        self.assertIsNone(self.taken([mark("a")], [mark("b"), mark("a")], "b"))
        self.assertEqual(self.taken([mark("a"), mark("b")], [mark("a", was=["b"])], "a"), "a")
        # Former names of the writer's field mean nothing.
        self.assertIsNone(self.taken([mark("a", was=["b"])], [mark("b")], "b"))
        self.assertEqual(self.taken([mark("a", was=["c"])], [mark("a")], "a"), "a")

    def test_what_fits(self):
        for writer, reader in [(mark("a", default=1), mark("a")), (link("a", "A"), link("a", "B")),
                               (link("a", "A"), link("a")), (link("a"), many("a")), (mark("a"), link("a")),
                               (many("a", "B"), many("a", "A")), (link("a"), mark("a"))]:
            self.assertIsNone(self.taken([writer], [reader], "a"))
            self.assertIsNone(self.taken([reader], [writer], "a"))
            self.assertEqual(self.taken([writer], [writer], "a"), "a")

    def test_former_names(self):
        self.assertEqual(self.taken([mark("b")], [mark("a", was=["b"])], "a"), "b")
        self.assertEqual(self.taken([mark("b"), mark("c")], [mark("a", was=["c", "b"])], "a"), "c")
        self.assertEqual(self.taken([mark("b"), mark("c")], [mark("a", was=["b", "c"])], "a"), "b")
        self.assertEqual(self.taken([mark("b")], [mark("a", was=["c", "b"])], "a"), "b")
        self.assertEqual(self.taken([link("c"), mark("b")], [mark("a", was=["c", "b"])], "a"), "b")
        # A field of its own name that does not fit is passed over.
        self.assertEqual(self.taken([mark("a", default=3), mark("b")], [mark("a", was=["b"])], "a"), "b")
        self.assertIsNone(self.taken([mark("a", default=3)], [mark("a", was=["b"])], "a"))
        self.assertIsNone(self.taken([mark("b", default=3)], [mark("a", was=["b"])], "a"))

    def test_that_two_take_one_does_not_matter(self):
        fields = [mark("b")], [mark("a", was=["b"]), mark("b")]
        self.assertEqual((self.taken(*fields, "a"), self.taken(*fields, "b")), ("b", "b"))

    def test_heirs(self):
        writer = House("R", [Kind("R", []), Kind("Base", [mark("a")], heirs=True),
                             Kind("Heir", [mark("b")], base="Base")])
        reader = House("R", [Kind("R", []), Kind("Base", [mark("c", was=["b", "a"])], heirs=True),
                             Kind("Heir", [], base="Base")])
        self.assertEqual(source_field(writer=writer, reader=reader, kind="Base", field="c"), "a")
        self.assertEqual(source_field(writer, reader, "Heir", "c"), "b")
        self.assertIsNone(reader_fault(writer, reader))
        web = Web(writer, [("Base", {"a": 1}), ("Heir", {"a": 2, "b": 3})])
        self.assertEqual(led(web, reader).things(), [("Base", {"c": 1}), ("Heir", {"c": 3})])

    def test_errors(self):
        reader = one_kind(mark("b"))
        for value in any_values() + ["any"]:
            self.assertIs(raised(UnknownKind, source_field, one_kind(mark("a")), reader, value, "b").name, value)
        for value in any_values() + ["a"]:
            error = raised(UnknownField, source_field, one_kind(mark("a")), reader, "A", value)
            self.assertEqual(error.kind, "A")
            self.assertIs(error.name, value)
        self.assertEqual(raised(UnknownKind, source_field, reader, reader, "No", "no").name, "No")


class TestReaderFault(unittest.TestCase):
    def test_every_house_is_an_edition_of_itself(self):
        for house in (town_house(), NODE, one_kind(mark("a", was=["b"]))):
            self.assertIsNone(reader_fault(writer=house, reader=house))

    def check(self, reader, expected):
        self.assertEqual(reader_fault(town_house(), reader), expected)
        web = town_web()
        if expected is None:
            self.assertEqual(led(web, reader).house, reader)
        else:
            self.assertEqual(raised(BadReader, led, web, reader).kind, expected)

    def test_other_fields(self):
        self.check(changed_town(0, Kind("Town", [])), None)
        self.check(changed_town(0, Kind("Town", [many("size"), link("parts"), mark("mayor")])), None)
        self.check(changed_town(3, Kind("Judge", [mark("more", default=4)], base="Person")), None)
        self.check(changed_town(4, Kind("Paper", [mark("stamp")], frozen=True)), None)
        self.check(changed_town(7, Kind("Note", [mark("line"), mark("more")], key="line")), None)
        self.check(changed_town(8, Kind("Dot", [link("to")])), None)

    def test_each_part(self):
        self.check(changed_town(9, Kind("Found", [mark("way")])), "Lost")
        self.check(changed_town(9, None), "Lost")
        self.check(changed_town(8, None), "Dot")
        self.check(changed_town(3, Kind("Judge", [link("court", "Town")])), "Judge")
        self.check(changed_town(8, Kind("Dot", [], base="Person")), "Dot")
        self.check(changed_town(9, Kind("Lost", [mark("way")], frozen=True)), "Lost")
        self.check(changed_town(5, Kind("Stamp", [mark("worth")])), "Stamp")
        self.check(changed_town(8, Kind("Dot", [], heirs=True)), "Dot")
        self.check(changed_town(9, Kind("Lost", [mark("way")], key="way")), "Lost")
        self.check(changed_town(7, Kind("Note", [mark("line")])), "Note")
        self.check(changed_town(7, Kind("Note", [mark("line"), mark("more")], key="more")), "Note")
        self.check(changed_town(7, Kind("Note", [mark("line")], key="line", registered=True)), "Note")
        self.check(changed_town(6, Kind("Tag", [mark("code"), mark("tone")], key="code")), "Tag")

    def test_registered_kinds_have_equal_fields(self):
        def tag(*fields):
            return Kind("Tag", fields, key="code", registered=True)
        code, tone = mark("code"), mark("tone")
        self.check(changed_town(6, tag(code, tone)), None)
        for fields in [(code,), (tone, code), (code, tone, mark("more")), (code, mark("tone", default=1)),
                       (code, mark("tone", was=["sound"])), (code, mark("sound", was=["tone"]))]:
            self.check(changed_town(6, tag(*fields)), "Tag")

    def test_the_fields_of_the_base_of_a_registered_kind(self):
        def house(*fields, own="b"):
            return House("R", [Kind("R", []), Kind("Base", fields, heirs=True),
                               Kind("Heir", [mark(own)], base="Base", key=own, registered=True),
                               Kind("Other", [], base="Base")])
        writer = house(mark("a"))
        self.assertIsNone(reader_fault(writer, house(mark("a"))))
        self.assertEqual(reader_fault(writer, house(mark("a", default=2))), "Heir")
        self.assertEqual(reader_fault(writer, house()), "Heir")
        self.assertEqual(reader_fault(house(mark("a"), own="b"), house(mark("a"), own="c")), "Heir")

    def test_one_kind_more(self):
        kinds = [town_house().kind_named(name) for name in town_house().names]
        self.check(town_house().with_kinds([*kinds, Kind("New", []), Kind("Newer", [])]), "New")
        self.check(town_house().with_kinds([Kind("New", []), *kinds]), "Town")
        self.check(town_house().with_kinds([kinds[0], *kinds[1:8], kinds[9], kinds[8]]), "Dot")

    def test_roots(self):
        kinds = [town_house().kind_named(name) for name in town_house().names]
        self.check(town_house().with_kinds(kinds, root="Dot"), "Town")
        # A kind that differs, also one that is one too many, comes first.
        self.check(town_house().with_kinds([*kinds, Kind("New", [])], root="Dot"), "New")
        self.check(town_house().with_kinds([*kinds[:9], Kind("Found", [])], root="Dot"), "Lost")

    def test_two_fields_that_take_one(self):
        self.check(changed_town(9, Kind("Lost", [mark("way"), mark("path", was=["way"])])), "Lost")
        self.check(changed_town(9, Kind("Lost", [mark("road", was=["way"]), mark("path", was=["way"])])), "Lost")
        self.check(changed_town(9, Kind("Lost", [mark("road", was=["way"]), mark("path", was=["no"])])), None)
        self.check(changed_town(9, Kind("Lost", [mark("road"), mark("path")])), None)
        twice = Kind("Town", [mark("size", default=3), mark("area", default=3, was=["size"])])
        self.check(changed_town(0, twice), "Town")
        # It comes behind unequal kinds and roots, and the first kind of two is named.
        kinds = [twice] + [town_house().kind_named(name) for name in town_house().names[1:9]]
        lost = Kind("Lost", [mark("way"), mark("path", was=["way"])])
        self.check(town_house().with_kinds([*kinds, lost]), "Town")
        self.check(town_house().with_kinds(kinds), "Lost")
        self.check(town_house().with_kinds([*kinds, lost, Kind("New", [])]), "New")
        self.check(town_house().with_kinds([*kinds, lost], root="Dot"), "Town")
        writer = House("A", [Kind("A", []), Kind("B", [mark("a")])])
        reader = House("B", [Kind("A", []), Kind("B", [mark("a"), mark("b", was=["a"])])])
        self.assertEqual(reader_fault(writer, reader), "A")
        reader = reader.with_kinds([Kind("A", []), reader.kind_named("B")], root="A")
        self.assertEqual(reader_fault(writer, reader), "B")

    def test_an_heir_in_which_two_fields_take_one(self):
        writer = House("R", [Kind("R", []), Kind("Base", [mark("a")], heirs=True),
                             Kind("Heir", [mark("b")], base="Base")])
        reader = House("R", [Kind("R", []), Kind("Base", [mark("c", was=["b"])], heirs=True),
                             Kind("Heir", [mark("b")], base="Base")])
        self.assertEqual(reader_fault(writer, reader), "Heir")


class TestLed(unittest.TestCase):
    def test_by_hand(self):
        writer = House("A", [Kind("A", [mark("a"), link("b", "A"), many("c"), mark("d", default=5), link("e")]),
                             Kind("B", [])])
        reader = House("A", [Kind("A", [many("new"), link("f", "A", was=["b"]), mark("a"), mark("d", default=6),
                                        many("c"), link("e", "A"), link("g")]), Kind("B", [mark("x", default=-2)])])
        web = Web(writer, [("A", {"a": 7, "b": 2, "c": [1, 2, 1], "d": 8, "e": 0}), ("B", {}), ("A", {"c": [0]}),
                           ("B", {})], here=2, old=1)
        expected = Web(reader, [("A", {"f": 2, "a": 7, "c": [1, 2, 1]}), ("B", {}), ("A", {"c": [0]}), ("B", {})],
                       here=2, old=1)
        self.assertEqual(led(web=web, reader=reader), expected)
        self.assertEqual(expected[0, "d"], 6)
        self.assertEqual(expected[1, "x"], -2)
        self.assertEqual(web[0, "c"], [1, 2, 1])

    def test_to_another_edition_and_back(self):
        writer = one_kind(mark("a"), link("b"), many("c", "A"))
        reader = one_kind(many("z", "A", was=["c"]), mark("x", was=["a"]), link("b"), mark("new", default=9))
        back = one_kind(mark("a", was=["x"]), link("b"), many("c", "A", was=["y", "z"]))
        chance = random.Random(51)
        for _ in range(30):
            web = some_web(chance, 4, house=writer, kinds=("A", "A", "B"), old=chance.random() < 0.5)
            there = led(web, reader)
            self.assertEqual((there.here, there.old, len(there)), (web.here, web.old, len(web)))
            home = led(there, back)
            self.assertEqual(home.house, back)
            self.assertEqual(home.things(), web.things())
            self.assertEqual(led(web, writer), web)
        # Back by the writer itself only the link has its name.
        web = Web(writer, [("A", {"a": 1, "b": 1, "c": [0, 0]}), ("B", {})])
        self.assertEqual(led(led(web, reader), writer), Web(writer, [("A", {"b": 1}), ("B", {})]))

    def test_a_large_web(self):
        web = chain(NODE, "Node", "next", 4000, ring=True)
        reader = House("Node", [Kind("Node", [Field("on", "link", target="Node", was=["next"])])])
        self.assertEqual(led(web, reader), chain(reader, "Node", "on", 4000, ring=True))


if __name__ == "__main__":
    unittest.main()
