"""[1.1] to [1.5]: fields, kinds and houses."""

import unittest

from tests.samples import any_values, link, many, mark, node_house, raised, town_house
from waypairs.errors import BadField, BadHouse, BadKind, UnknownField, UnknownKind
from waypairs.kinds import Field, House, Kind

WRONG_FIELD_NAMES = ["", "abcdefghi", "A", "aB", "a1", "a b", " a", "a\n", "a_b", "\xe9", "Abc"]
WRONG_KIND_NAMES = ["", "a", "ab", "qq", "0", "0a", "Abcdefghi", "AB", "A1", "A b", "1", " A", "A\n", "\xc9", "A\xe9"]


class TestField(unittest.TestCase):
    def test_attributes(self):
        field = Field("age", "mark", default=-4, was=["years", "old"])
        self.assertEqual((field.name, field.mode, field.target, field.default, field.was),
                         ("age", "mark", None, -4, ("years", "old")))
        self.assertIsInstance(field.was, tuple)
        field = Field(name="next", mode="link", target="Node")
        self.assertEqual((field.name, field.mode, field.target, field.default, field.was),
                         ("next", "link", "Node", 0, ()))
        self.assertEqual(Field("all", "list", target="any").target, "any")

    def test_names(self):
        for name in ["a", "z", "abcdefgh", "any", "was"]:
            self.assertEqual(Field(name, "mark").name, name)
        for name in WRONG_FIELD_NAMES + any_values():
            error = raised(BadField, Field, name, "mark")
            self.assertIs(error.name, name)
        self.assertEqual(Field("zzzzzzzz", "mark").name, "zzzzzzzz")

    def test_modes(self):
        for mode in ["Mark", "set", "marks"] + any_values():
            self.assertEqual(raised(BadField, Field, "a", mode).name, "a")
            raised(BadField, Field, "a", mode, target="any")

    def test_targets(self):
        for mode in ("link", "list"):
            for target in ("A", "Z", "Abcdefgh", "Any", "any"):
                self.assertEqual(Field("a", mode, target=target).target, target)
            for target in WRONG_KIND_NAMES + [None] + [v for v in any_values() if v != "Zzz"]:
                raised(BadField, Field, "a", mode, target=target)
            raised(BadField, Field, "a", mode)
        for target in ["A", "any"] + [v for v in any_values() if v is not None]:
            raised(BadField, Field, "a", "mark", target=target)
        self.assertIsNone(Field("a", "mark", target=None).target)

    def test_defaults_of_marks(self):
        for default in (0, 1, -1, 10 ** 12 - 1, 1 - 10 ** 12):
            self.assertEqual(Field("a", "mark", default=default).default, default)
        for default in [10 ** 12, -10 ** 12, 10 ** 30, True, False, None, "0", 0.0, [0], (0,)]:
            raised(BadField, Field, "a", "mark", default=default)
        for default in any_values():
            if default != -1:
                raised(BadField, Field, "a", "mark", default=default)

    def test_defaults_of_links_and_lists(self):
        for mode in ("link", "list"):
            self.assertEqual(Field("a", mode, target="any", default=0).default, 0)
            for default in [1, -1, False, True, None, [], (), "", "0", 0.0]:
                raised(BadField, Field, "a", mode, target="any", default=default)

    def test_was(self):
        for was in ([], (), ["b"], ("b",), ["b", "c"], ("b", "c")):
            self.assertEqual(Field("a", "mark", was=was).was, tuple(was))
            self.assertEqual(Field("a", "link", target="A", was=was).was, tuple(was))
        for was in (["b", "b"], ("b", "b"), ["b", "c", "d"], ["a"], ["b", "a"], ["B"], [""], ["abcdefghi"], "b", "bc",
                    {"b": 1}, None, [None], [["b"]], 0, True, ["b", 1]):
            self.assertEqual(raised(BadField, Field, "a", "mark", was=was).name, "a")
        for was in any_values():
            if was not in ([], ()):
                raised(BadField, Field, "a", "mark", was=was)

    def test_a_list_that_was_passed_is_changed(self):
        was = ["b"]
        field = Field("a", "mark", was=was)
        was.append("c")
        self.assertEqual(field.was, ("b",))

    def test_equality(self):
        one = Field("a", "mark", default=2, was=["b"])
        self.assertEqual(one, Field("a", "mark", target=None, default=2, was=("b",)))
        for other in [Field("c", "mark", default=2, was=["b"]), Field("a", "mark", default=3, was=["b"]),
                      Field("a", "mark", default=2), Field("a", "mark", default=2, was=["b", "c"]),
                      Field("a", "link", target="A"), None, "a", ("a",)]:
            self.assertNotEqual(one, other)
        self.assertNotEqual(Field("a", "link", target="A"), Field("a", "list", target="A"))
        self.assertNotEqual(Field("a", "link", target="A"), Field("a", "link", target="B"))
        self.assertNotEqual(Field("a", "mark", was=["b", "c"]), Field("a", "mark", was=["c", "b"]))


class TestKind(unittest.TestCase):
    def test_attributes(self):
        fields = [mark("a"), link("b")]
        kind = Kind("Node", fields)
        self.assertEqual((kind.name, kind.fields, kind.base, kind.frozen, kind.heirs, kind.key, kind.registered),
                         ("Node", (mark("a"), link("b")), None, False, False, None, False))
        self.assertIsInstance(kind.fields, tuple)
        kind = Kind(name="Tag", fields=(mark("a"),), base="Base", frozen=False, heirs=False, key="a", registered=True)
        self.assertEqual((kind.base, kind.key, kind.registered), ("Base", "a", True))
        self.assertIs(Kind("A", [], frozen=True).frozen, True)
        self.assertIs(Kind("A", [], heirs=True).heirs, True)
        fields.append(mark("c"))
        self.assertEqual(len(Kind("Node", fields[:2]).fields), 2)

    def test_a_list_that_was_passed_is_changed(self):
        fields = [mark("a")]
        kind = Kind("A", fields)
        fields.append(mark("b"))
        self.assertEqual(kind.fields, (mark("a"),))

    def test_names(self):
        for name in ["A", "Z", "Abcdefgh", "Zz", "Any"]:
            self.assertEqual(Kind(name, []).name, name)
        for name in WRONG_KIND_NAMES + [v for v in any_values() if v != "Zzz"]:
            self.assertIs(raised(BadKind, Kind, name, []).name, name)

    def test_fields(self):
        ten = [mark(letter) for letter in "abcdefghij"]
        self.assertEqual(len(Kind("A", ten).fields), 10)
        self.assertEqual(len(Kind("A", tuple(ten)).fields), 10)
        self.assertEqual(Kind("A", []).fields, ())
        for fields in [[*ten, mark("k")], [mark("a"), mark("a")], [mark("a"), link("a")], ["a"], [None],
                       [mark("a"), "b"], {"a": mark("a")}, mark("a"), None, "", 0]:
            self.assertEqual(raised(BadKind, Kind, "A", fields).name, "A")
        for fields in any_values():
            if fields not in ([], ()):
                raised(BadKind, Kind, "A", fields)

    def test_bases(self):
        self.assertEqual(Kind("A", [], base="B").base, "B")
        for base in ["A", "any", "b"] + WRONG_KIND_NAMES + [v for v in any_values() if v not in (None, "Zzz")]:
            raised(BadKind, Kind, "A", [], base=base)
        raised(BadKind, Kind, "A", [], base="B", frozen=True)
        raised(BadKind, Kind, "A", [], base="B", heirs=True)

    def test_truth_values(self):
        for value in [0, 1, None, "", "True", [], [True], (), 2]:
            raised(BadKind, Kind, "A", [mark("a")], frozen=value)
            raised(BadKind, Kind, "A", [mark("a")], heirs=value)
            raised(BadKind, Kind, "A", [mark("a")], key="a", registered=value)
        for value in any_values():
            if not isinstance(value, bool):
                raised(BadKind, Kind, "A", [], frozen=value)
                raised(BadKind, Kind, "A", [], heirs=value)
                raised(BadKind, Kind, "A", [], key="a", registered=value)

    def test_keys(self):
        self.assertEqual(Kind("A", [mark("a")], key="a").key, "a")
        # Whether the key is a mark of the kind, the house decides.
        self.assertEqual(Kind("A", [], key="b").key, "b")
        self.assertEqual(Kind("A", [mark("a")], key="a", frozen=True).key, "a")
        for key in WRONG_FIELD_NAMES + [v for v in any_values() if v is not None]:
            raised(BadKind, Kind, "A", [mark("a")], key=key)

    def test_parts_that_exclude_each_other(self):
        raised(BadKind, Kind, "A", [mark("a")], heirs=True, frozen=True)
        raised(BadKind, Kind, "A", [mark("a")], heirs=True, key="a")
        raised(BadKind, Kind, "A", [mark("a")], registered=True)
        self.assertIs(Kind("A", [mark("a")], key="a", registered=True, frozen=True).registered, True)

    def test_equality(self):
        def made(**more):
            return Kind("A", [mark("a")], **more)
        self.assertEqual(made(), Kind("A", (mark("a"),)))
        self.assertEqual(made(key="a", registered=True), made(key="a", registered=True))
        different = [made(), made(base="B"), made(frozen=True), made(heirs=True), made(key="a"),
                     made(key="a", registered=True), Kind("A", []), Kind("B", [mark("a")]), Kind("A", [mark("b")]),
                     Kind("A", [mark("a"), mark("b")]), "A", None]
        for at, one in enumerate(different):
            for other in different[:at]:
                self.assertNotEqual(one, other)


class TestHouseErrors(unittest.TestCase):
    def refused(self, name, kinds, root="Root"):
        error = raised(BadHouse, House, root, kinds)
        self.assertEqual(error.name, name)
        self.assertEqual(type(error.name), type(name))

    def test_kinds(self):
        for kinds in [[], (), None, "Root", {}, [None], ["Root"], [Kind("Root", []), None], Kind("Root", []), 3]:
            self.refused(None, kinds)
        for kinds in any_values():
            self.refused(None, kinds)
            self.refused(None, [kinds])
        twelve = [Kind("Root", [])] + [Kind("A" + letter, []) for letter in "abcdefghijk"]
        self.assertEqual(len(House("Root", twelve)), 12)
        self.assertEqual(len(House("Root", tuple(twelve))), 12)
        self.refused(None, [*twelve, Kind("B", [])])
        # More than twelve kinds come ahead of what is wrong with one.
        self.refused(None, [*twelve, Kind("Root", [])])

    def test_names_are_different(self):
        self.refused("Root", [Kind("Root", []), Kind("Root", [mark("a")])])
        self.refused("A", [Kind("Root", []), Kind("A", []), Kind("B", []), Kind("A", [])])

    def test_bases(self):
        base = Kind("Base", [mark("a")], heirs=True)
        self.assertEqual(len(House("Root", [Kind("Root", []), base, Kind("Heir", [], base="Base")])), 3)
        self.refused("Heir", [Kind("Root", []), Kind("Heir", [], base="Base"), base])
        self.refused("Heir", [Kind("Root", []), Kind("Heir", [], base="Base")])
        self.refused("Heir", [Kind("Root", []), Kind("Heir", [], base="Root")])
        self.refused("Next", [Kind("Root", []), base, Kind("Heir", [], base="Base"), Kind("Next", [], base="Heir")])

    def test_number_and_names_of_fields(self):
        base = Kind("Base", [mark(letter) for letter in "abcde"], heirs=True)
        five = [mark(letter) for letter in "fghij"]
        house = House("Base", [base, Kind("Heir", five, base="Base")])
        self.assertEqual(len(house.fields_of("Heir")), 10)
        self.refused("Heir", [base, Kind("Heir", [*five, mark("k")], base="Base")], root="Base")
        self.refused("Heir", [base, Kind("Heir", [link("a")], base="Base")], root="Base")

    def test_targets(self):
        later = Kind("Later", [])
        House("Root", [Kind("Root", [link("a", "Later"), many("b", "Root"), link("c")]), later])
        self.refused("Root", [Kind("Root", [link("a", "None")]), later])
        self.refused("Root", [Kind("Root", [many("a", "None")]), later])
        self.refused("Last", [Kind("Root", []), later, Kind("Last", [link("a", "Least")])])

    def test_keys(self):
        House("Root", [Kind("Root", []), Kind("A", [mark("a")], key="a")])
        self.refused("A", [Kind("Root", []), Kind("A", [mark("a")], key="b")])
        self.refused("A", [Kind("Root", []), Kind("A", [link("a")], key="a")])
        self.refused("A", [Kind("Root", []), Kind("A", [mark("a"), link("b")], key="a")])
        self.refused("A", [Kind("Root", []), Kind("A", [mark("a"), many("b")], key="a")])

    def test_keys_of_heirs(self):
        base = Kind("Base", [mark("a")], heirs=True)
        House("Base", [base, Kind("Heir", [], base="Base", key="a")])
        House("Base", [base, Kind("Heir", [mark("b")], base="Base", key="b", registered=True)])
        linked = Kind("Base", [mark("a"), link("b")], heirs=True)
        self.refused("Heir", [linked, Kind("Heir", [mark("c")], base="Base", key="c")], root="Base")
        self.refused("Heir", [base, Kind("Heir", [mark("b")], base="Base", key="c")], root="Base")

    def test_frozen(self):
        root = Kind("Root", [])
        House("Root", [root, Kind("Ice", [link("a", "Root"), many("b", "Cold")], frozen=True), Kind("Cold", [])])
        self.refused("Ice", [root, Kind("Ice", [link("a", "Ice")], frozen=True)])
        self.refused("Ice", [root, Kind("Ice", [link("a")], frozen=True)])
        self.refused("Ice", [root, Kind("Ice", [many("a", "Soft")], frozen=True), Kind("Soft", [link("b", "Ice")])])
        self.refused("Ice", [root, Kind("Base", [], heirs=True), Kind("Ice", [link("a", "Base")], frozen=True)])
        self.refused("Ice", [root, Kind("Base", [], heirs=True), Kind("Ice", [link("a", "Soft")], frozen=True),
                             Kind("Soft", [link("b", "Base")])])
        # Leading to an heir alone is not leading to what lets heirs.
        House("Root", [root, Kind("Base", [], heirs=True), Kind("Heir", [], base="Base"),
                       Kind("Ice", [link("a", "Heir")], frozen=True)])
        # A soft ring that a frozen kind leads into does not lead back to it.
        House("Root", [root, Kind("Ice", [link("a", "Soft")], frozen=True), Kind("Soft", [link("b", "Soft")])])
        self.refused("First", [root, Kind("First", [link("a", "Next")], frozen=True),
                               Kind("Next", [link("a", "First")], frozen=True)])

    def test_roots(self):
        kinds = [Kind("Root", []), Kind("Tag", [mark("a")], key="a")]
        self.refused("Tag", kinds, root="Tag")
        self.refused("None", kinds, root="None")
        for root in any_values():
            error = raised(BadHouse, House, root, kinds)
            self.assertIs(error.name, root)

    def test_the_order_of_the_errors(self):
        # The first kind for which one of the first four rules fails, whichever that is.
        self.refused("A", [Kind("Root", []), Kind("A", [link("a", "No")]), Kind("Root", [])])
        self.refused("Root", [Kind("Root", []), Kind("Root", []), Kind("A", [link("a", "No")])])
        self.refused("A", [Kind("Root", []), Kind("A", [mark("a")], key="b"), Kind("B", [], base="C")])
        # They come ahead of the fifth rule, also for a later kind.
        self.refused("B", [Kind("Root", []), Kind("A", [link("a", "A")], frozen=True), Kind("B", [link("a", "No")])])
        # The fifth comes ahead of the root, and the first kind of two.
        self.refused("A", [Kind("A", [link("a", "A")], frozen=True), Kind("B", [link("a", "B")], frozen=True)],
                     root="None")
        self.refused("A", [Kind("Root", []), Kind("A", [], base="Z")], root="None")
        self.refused(None, [], root="None")


class TestHouse(unittest.TestCase):
    def setUp(self):
        self.house = town_house()

    def test_attributes(self):
        self.assertEqual((House.KINDS, House.FIELDS), (12, 10))
        self.assertEqual(self.house.root, "Town")
        self.assertEqual(self.house.names, ("Town", "Person", "Clerk", "Judge", "Paper", "Stamp", "Tag", "Note",
                                            "Dot", "Lost"))
        self.assertIsInstance(self.house.names, tuple)
        self.assertEqual(len(self.house), 10)
        self.assertEqual(len(node_house()), 1)

    def test_contains(self):
        self.assertIn("Town", self.house)
        self.assertIn("Lost", self.house)
        for value in ["any", "town", "age", ["Town"], ("Town",)] + any_values():
            self.assertIs(value in self.house, False)

    def test_unknown_kinds(self):
        house = self.house
        for call in [house.kind_named, house.fields_of, house.marks_of, house.slots_of, house.lets_heirs,
                     house.is_frozen, house.is_registered, house.is_leaf, house.is_movable, house.key_of,
                     house.heirs_of, house.leads, house.leads_far]:
            for value in any_values() + ["any"]:
                self.assertIs(raised(UnknownKind, call, value).name, value)
                self.assertIs(raised(UnknownKind, call, kind=value).name, value)

    def test_kind_named(self):
        self.assertEqual(self.house.kind_named("Dot"), Kind("Dot", []))
        self.assertEqual(self.house.kind_named(kind="Clerk").base, "Person")

    def test_fields(self):
        names = [field.name for field in self.house.fields_of("Clerk")]
        self.assertEqual(names, ["age", "friend", "desk", "papers"])
        self.assertEqual(self.house.fields_of("Dot"), [])
        self.assertEqual(self.house.field_of("Clerk", "age"), mark("age"))
        self.assertEqual(self.house.field_of(kind="Clerk", name="desk"), mark("desk", default=-7))
        for value in any_values() + ["size", "any"]:
            error = raised(UnknownField, self.house.field_of, "Person", value)
            self.assertEqual(error.kind, "Person")
            self.assertIs(error.name, value)
        self.assertEqual(raised(UnknownField, self.house.field_of, "Person", "desk").name, "desk")
        self.assertEqual(raised(UnknownKind, self.house.field_of, "No", "no").name, "No")
        self.assertEqual(self.house.marks_of("Clerk"), ["age", "desk"])
        self.assertEqual(self.house.slots_of("Clerk"), ["friend", "papers"])
        self.assertEqual(self.house.slots_of("Town"), ["mayor", "parts"])
        self.assertEqual((self.house.marks_of("Dot"), self.house.slots_of("Tag")), ([], []))

    def test_what_kinds_are(self):
        def those(call):
            return [name for name in self.house.names if call(name) is True]

        def others(call):
            return [name for name in self.house.names if call(name) is False]
        for call, names in [(self.house.lets_heirs, ["Person"]), (self.house.is_frozen, ["Paper", "Stamp"]),
                            (self.house.is_registered, ["Tag"]),
                            (self.house.is_leaf, ["Stamp", "Tag", "Note", "Dot", "Lost"]),
                            (self.house.is_movable, ["Town", "Person", "Clerk", "Judge", "Tag", "Lost"])]:
            self.assertEqual(those(call), names)
            self.assertEqual(len(others(call)), 10 - len(names))

    def test_movable_by_a_slot_alone(self):
        house = House("A", [Kind("A", [link("a")]), Kind("B", [many("b")]), Kind("C", [mark("c")])])
        self.assertEqual([house.is_movable(name) for name in "ABC"], [True, True, True])

    def test_keys_and_heirs(self):
        self.assertEqual([self.house.key_of(name) for name in ("Tag", "Note", "Town")], ["code", "line", None])
        self.assertEqual(self.house.heirs_of("Person"), ["Clerk", "Judge"])
        self.assertEqual((self.house.heirs_of("Clerk"), self.house.heirs_of("Town")), ([], []))

    def test_admitted(self):
        self.assertEqual(self.house.admitted("any"), list(self.house.names))
        self.assertEqual(self.house.admitted("Person"), ["Person", "Clerk", "Judge"])
        self.assertEqual(self.house.admitted(target="Clerk"), ["Clerk"])
        for value in any_values():
            self.assertIs(raised(UnknownKind, self.house.admitted, value).name, value)

    def test_admits(self):
        self.assertIs(self.house.admits("Person", "Clerk"), True)
        self.assertIs(self.house.admits("Clerk", "Person"), False)
        self.assertIs(self.house.admits("any", "Dot"), True)
        self.assertIs(self.house.admits(target="Clerk", kind="Clerk"), True)
        self.assertEqual(raised(UnknownKind, self.house.admits, "No", "None").name, "No")
        self.assertEqual(raised(UnknownKind, self.house.admits, "Town", "any").name, "any")
        for value in any_values():
            self.assertIs(raised(UnknownKind, self.house.admits, value, "Town").name, value)
            self.assertIs(raised(UnknownKind, self.house.admits, "any", value).name, value)

    def test_leads(self):
        self.assertEqual(self.house.leads("Judge"), ["Town", "Person", "Clerk", "Judge"])
        self.assertEqual(self.house.leads("Clerk"), ["Person", "Clerk", "Judge", "Paper"])
        self.assertEqual(self.house.leads("Paper"), ["Stamp"])
        self.assertEqual(self.house.leads("Stamp"), [])
        self.assertEqual(self.house.leads("Town"), list(self.house.names))
        self.assertEqual(self.house.leads_far("Paper"), ["Stamp"])
        self.assertEqual(self.house.leads_far("Dot"), [])
        self.assertEqual(self.house.leads_far("Person"), list(self.house.names))

    def test_leads_far_without_itself(self):
        house = House("C", [Kind("C", [link("a", "B")]), Kind("A", [link("a", "A")]), Kind("B", [link("a", "A")])])
        self.assertEqual(house.leads_far("C"), ["A", "B"])
        self.assertEqual((house.leads("B"), house.leads_far("A")), (["A"], ["A"]))

    def test_lists_that_were_told_are_new(self):
        for call in [lambda: self.house.fields_of("Clerk"), lambda: self.house.marks_of("Clerk"),
                     lambda: self.house.slots_of("Clerk"), lambda: self.house.heirs_of("Person"),
                     lambda: self.house.admitted("any"), lambda: self.house.admitted("Person"),
                     lambda: self.house.leads("Clerk"), lambda: self.house.leads_far("Clerk")]:
            told = call()
            self.assertIsInstance(told, list)
            told.clear()
            self.assertNotEqual(call(), [])

    def test_a_list_that_was_passed_is_changed(self):
        kinds = [Kind("A", [])]
        house = House("A", kinds)
        kinds.append(Kind("B", []))
        self.assertEqual((len(house), house.names), (1, ("A",)))
        self.assertEqual(house, House("A", (Kind("A", []),)))

    def test_with_kinds(self):
        house = House("A", [Kind("A", []), Kind("B", [])])
        other = house.with_kinds([Kind("C", []), Kind("A", [mark("a")])])
        self.assertEqual((other.root, other.names), ("A", ("C", "A")))
        self.assertEqual(house.with_kinds(kinds=(Kind("C", []),), root="C").root, "C")
        self.assertEqual(house.names, ("A", "B"))
        self.assertEqual(raised(BadHouse, house.with_kinds, [Kind("C", [])]).name, "A")
        self.assertEqual(raised(BadHouse, house.with_kinds, [Kind("C", [])], root="B").name, "B")
        self.assertIsNone(raised(BadHouse, house.with_kinds, []).name)

    def test_equality(self):
        self.assertEqual(town_house(), town_house())
        one = House("A", [Kind("A", []), Kind("B", [])])
        for other in [House("B", [Kind("A", []), Kind("B", [])]), House("A", [Kind("B", []), Kind("A", [])]),
                      House("A", [Kind("A", [])]), House("A", [Kind("A", []), Kind("B", [mark("a")])]), "A", None]:
            self.assertNotEqual(one, other)


if __name__ == "__main__":
    unittest.main()
