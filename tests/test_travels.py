"""[4.1] to [4.3]: travels."""

import itertools
import unittest

from tests.samples import any_values, link, many, mark, node_house, raised, town_house
from waypairs.errors import BadReader, BadTravel, UnknownField, UnknownKind
from waypairs.kinds import House, Kind
from waypairs.travels import Travel

TOWN = town_house()
DUE = ("goes", "goes", "goes")
TABLE = [("Town", None, "itself"), ("Town", "size", "goes"), ("Town", "mayor", "goes"), ("Town", "parts", "goes"),
         ("Person", None, "itself"), ("Person", "age", "goes"), ("Person", "friend", "goes"),
         ("Clerk", None, "itself"), ("Clerk", "desk", "goes"), ("Clerk", "papers", "goes"),
         ("Judge", None, "itself"), ("Judge", "court", "goes"), ("Paper", None, "itself"), ("Paper", "page", "goes"),
         ("Paper", "stamp", "goes"), ("Stamp", None, "itself"), ("Stamp", "worth", "goes"),
         ("Tag", None, "itself"), ("Tag", "code", "goes"), ("Tag", "tone", "goes"), ("Note", None, "itself"),
         ("Note", "line", "goes"), ("Dot", None, "itself"), ("Lost", None, "itself"), ("Lost", "way", "goes")]


def tag_house():
    """A house in which links lead to registered and other kinds, and heirs have keys of the base."""
    return House("A", [
        Kind("A", [mark("m"), link("tag", "Tag"), many("tags", "Tag"), link("note", "Note"), link("to")]),
        Kind("Tag", [mark("k"), mark("m")], key="k", registered=True),
        Kind("Note", [mark("k")], key="k"),
        Kind("Base", [mark("b"), mark("c")], heirs=True),
        Kind("Heir", [mark("d")], base="Base", key="b"),
        Kind("Other", [mark("d")], base="Base", key="d", registered=True),
        Kind("Room", [link("heir", "Other"), link("base", "Base")], heirs=True),
        Kind("Dot", []),
    ])


TAG = tag_house()


class TestMaking(unittest.TestCase):
    def refused(self, kind, field, house=TAG, **parts):
        error = raised(BadTravel, Travel, house, **parts)
        self.assertEqual((error.kind, error.field), (kind, field))

    def test_attributes(self):
        travel = Travel(source=TOWN)
        self.assertEqual((travel.source, travel.target), (TOWN, TOWN))
        self.assertIs(travel.is_saving, False)
        reader = TOWN.with_kinds([Kind("Town", []), *[TOWN.kind_named(name) for name in TOWN.names[1:]]])
        travel = Travel(TOWN, reader=reader)
        self.assertEqual((travel.source, travel.target), (TOWN, reader))
        self.assertIs(travel.is_saving, True)
        self.assertIs(Travel(TOWN, reader=TOWN).is_saving, True)
        self.assertEqual(Travel(TOWN, fates=None, rules=None, unheard=None, reader=None), Travel(TOWN))

    def test_what_is_not_given(self):
        self.assertEqual(Travel(TOWN).table(), TABLE)
        self.assertEqual(Travel(TOWN).unheard("Person"), DUE)
        self.assertIsNone(Travel(TOWN).unheard("Clerk"))

    def test_wrong_keys_of_fates(self):
        for key in [("A", "no"), ("No", "m"), ("any", "m"), ("a", "m"), ("A", "A"), ("", ""), ("A", "k")]:
            self.refused(*key, fates={key: "goes"})
        # A field of the base stands under the name of the base alone.
        self.refused("Heir", "b", fates={("Heir", "b"): "goes"})
        self.refused("Heir", "c", fates={("Heir", "c"): "goes"})
        Travel(TAG, fates={("Base", "c"): "lost", ("Heir", "d"): "lost"})
        # The least key, not the first one.
        self.refused("A", "n", fates={("B", "a"): "goes", ("A", "o"): "goes", ("A", "n"): "goes", ("A", "m"): "goes"})
        self.refused("A", "z", fates={("a", "a"): "goes", ("A", "z"): "goes"})
        self.refused("A", "no", fates={("B", "a"): 1, ("A", "no"): 1, ("A", "m"): 1})

    def test_wrong_keys_of_rules_and_unheard_rows(self):
        for key in ["No", "any", "", "a", "tag"]:
            self.refused(key, None, rules={key: "itself"})
            self.refused(key, None, unheard={key: DUE})
        self.refused("No", None, rules={"Zo": "never", "No": "never", "A": "never", "So": "never"})
        for key in ["A", "Heir", "Tag", "Dot"]:
            self.refused(key, None, unheard={key: DUE})
        self.refused("Heir", None, unheard={"Heir": DUE, "Tag": DUE, "Base": DUE})
        self.refused("Dot", None, unheard={"Zo": DUE, "Dot": DUE, "Room": 3})

    def test_keys_come_first_and_in_their_order(self):
        bad = {"fates": {("A", "no"): 1}, "rules": {"No": 1}, "unheard": {"Not": 1}}
        self.refused("A", "no", **bad)
        self.refused("No", None, rules=bad["rules"], unheard=bad["unheard"], fates={("A", "m"): 1})
        self.refused("Not", None, rules={"A": 1}, unheard=bad["unheard"], fates={("A", "m"): 1})
        self.refused("Not", None, unheard=bad["unheard"], reader=node_house())

    def test_fates_by_mode(self):
        every = ["goes", "new", "stays", "lost", "named"]
        for field, right in [("m", ["goes", "lost"]), ("tag", every), ("tags", every), ("note", every[:4]),
                             ("to", every[:4])]:
            for fate in every:
                if fate in right:
                    travel = Travel(TAG, fates={("A", field): fate})
                    self.assertEqual(travel.fate("A", field), fate)
                    self.assertEqual([row[2] for row in travel.table()].count(fate), 1 if fate != "goes" else 14)
                else:
                    self.refused("A", field, fates={("A", field): fate})
            for fate in any_values() + ["Goes", "itself", ("goes",), ["goes"]]:
                self.refused("A", field, fates={("A", field): fate})

    def test_keys_are_not_lost(self):
        for kind, field in [("Tag", "k"), ("Note", "k"), ("Other", "d"), ("Base", "b")]:
            self.refused(kind, field, fates={(kind, field): "lost"})
            Travel(TAG, fates={(kind, field): "goes"})
        for kind, field in [("Tag", "m"), ("Base", "c"), ("Heir", "d"), ("A", "m")]:
            Travel(TAG, fates={(kind, field): "lost"})

    def test_named_leads_to_registered_kinds(self):
        Travel(TAG, fates={("A", "tag"): "named", ("A", "tags"): "named", ("Room", "heir"): "named"})
        for kind, field in [("A", "note"), ("A", "to"), ("Room", "base")]:
            self.refused(kind, field, fates={(kind, field): "named"})

    def test_stays_in_a_saving_travel(self):
        Travel(TAG, fates={("A", "to"): "stays"})
        self.refused("A", "to", fates={("A", "to"): "stays"}, reader=TAG)
        self.refused("A", "tags", fates={("A", "tags"): "stays"}, reader=TAG)
        for fate in ("goes", "new", "lost", "named"):
            Travel(TAG, fates={("A", "tag"): fate}, reader=TAG)

    def test_rules(self):
        for rule in ["itself", "marks", "never"]:
            self.assertEqual(Travel(TAG, rules={"A": rule}).rule("A"), rule)
        for rule in any_values() + ["Itself", "mark", "goes", ["marks"], ("marks",)]:
            self.refused("A", None, rules={"A": rule})
            self.refused("Dot", None, rules={"Dot": rule})
        self.refused("Dot", None, rules={"Dot": "marks"})
        self.refused("Room", None, rules={"Room": "marks"})
        Travel(TAG, rules={"Dot": "never", "Heir": "marks", "Base": "marks"})
        # The marks of the base are marks of the heir.
        house = House("A", [Kind("A", []), Kind("B", [mark("m")], heirs=True), Kind("C", [], base="B")])
        self.assertEqual(Travel(house, rules={"C": "marks"}).rule("C"), "marks")
        house = House("A", [Kind("A", []), Kind("B", [link("m")], heirs=True), Kind("C", [], base="B")])
        self.refused("C", None, house=house, rules={"C": "marks"})

    def test_rules_of_heirs(self):
        travel = Travel(TAG, rules={"Base": "marks"})
        self.assertEqual([travel.rule(kind) for kind in ("Base", "Heir", "Other", "A")],
                         ["marks", "marks", "marks", "itself"])
        travel = Travel(TAG, rules={"Base": "never", "Heir": "itself"})
        self.assertEqual([travel.rule(kind) for kind in ("Base", "Heir", "Other")], ["never", "itself", "never"])
        travel = Travel(TAG, rules={"Heir": "marks"})
        self.assertEqual([travel.rule(kind) for kind in ("Base", "Heir", "Other")], ["itself", "marks", "itself"])

    def test_unheard_rows(self):
        slots = ["goes", "new", "stays", "lost"]
        for row in itertools.product(["goes", "lost"], slots, slots):
            self.assertEqual(Travel(TAG, unheard={"Base": row}).unheard("Base"), row)
            if "stays" in row:
                self.refused("Base", None, unheard={"Base": row}, reader=TAG)
            else:
                self.assertEqual(Travel(TAG, unheard={"Base": row}, reader=TAG).unheard("Base"), row)
        for row in any_values() + [("new", "goes", "goes"), ("stays", "goes", "goes"), ("goes", "named", "goes"),
                                   ("goes", "goes", "named"), ("named", "goes", "goes"), ("goes", "goes"),
                                   ("goes", "goes", "goes", "goes"), ["goes", "goes", "goes"], "goes",
                                   (None, "goes", "goes"), ("goes", None, "goes"), ("goes", "goes", ["goes"])]:
            self.refused("Base", None, unheard={"Base": row})
            self.refused("Room", None, unheard={"Room": row})

    def test_readers(self):
        wrong = TAG.with_kinds([TAG.kind_named(name) for name in TAG.names[:7]])
        self.assertEqual(raised(BadReader, Travel, TAG, reader=wrong).kind, "Dot")
        self.assertEqual(raised(BadReader, Travel, TAG, reader=node_house()).kind, "A")
        fewer = TAG.with_kinds([Kind("A", []), *[TAG.kind_named(name) for name in TAG.names[1:]]])
        self.assertEqual(Travel(TAG, reader=fewer).target, fewer)
        # A wrong entry comes first.
        self.refused("Dot", None, rules={"Dot": "marks"}, reader=wrong)
        self.refused("A", "to", fates={("A", "to"): "stays"}, reader=wrong)

    def test_the_order_of_the_second_part(self):
        # By kinds; in each the fields, then the rule, then the unheard row.
        bad = {"fates": {("Tag", "m"): 1, ("Base", "c"): 1, ("Base", "b"): "lost", ("A", "to"): 1, ("A", "tag"): 2},
               "rules": {"Base": 1, "Heir": 1, "A": 1}, "unheard": {"Base": 1, "Room": 1}}
        for key in [("A", "tag"), ("A", "to"), ("A", None), ("Tag", "m"), ("Base", "b"), ("Base", "c"), ("Base", None)]:
            self.refused(*key, **bad)
            if key[1] is None:
                del bad["rules"][key[0]]
            else:
                del bad["fates"][key]
        self.refused("Base", None, **bad)
        bad["unheard"]["Base"] = DUE
        self.refused("Heir", None, **bad)
        del bad["rules"]["Heir"]
        self.refused("Room", None, **bad)
        # A wrong rule that an heir would take is found in the base.
        self.refused("Base", None, rules={"Base": "no"})

    def test_a_later_field_and_an_earlier_kind(self):
        self.refused("A", "to", fates={("A", "to"): "no", ("Tag", "k"): "lost"})
        self.refused("A", None, fates={("Tag", "k"): "lost"}, rules={"A": "no"})

    def test_copies_in(self):
        fates, rules, unheard = {("A", "to"): "new"}, {"A": "never"}, {"Base": ("lost", "new", "new")}
        travel = Travel(TAG, fates=fates, rules=rules, unheard=unheard)
        before = travel.table()
        fates[("A", "to")] = "lost"
        rules["A"] = "itself"
        unheard["Base"] = DUE
        self.assertEqual(travel.table(), before)
        self.assertEqual(travel.unheard("Base"), ("lost", "new", "new"))
        self.assertEqual((fates, rules, unheard), ({("A", "to"): "lost"}, {"A": "itself"}, {"Base": DUE}))


class TestAsking(unittest.TestCase):
    def setUp(self):
        self.travel = Travel(TAG, fates={("Base", "c"): "lost", ("A", "tag"): "named"}, rules={"Tag": "marks"},
                             unheard={"Room": ("lost", "new", "stays")})

    def test_fate(self):
        self.assertEqual(self.travel.fate("Base", "c"), "lost")
        self.assertEqual(self.travel.fate(kind="Heir", field="c"), "lost")
        self.assertEqual(self.travel.fate("Other", "c"), "lost")
        self.assertEqual((self.travel.fate("Heir", "d"), self.travel.fate("A", "tag")), ("goes", "named"))
        for value in any_values() + ["any"]:
            self.assertIs(raised(UnknownKind, self.travel.fate, value, value).name, value)
        for value in any_values() + ["d"]:
            error = raised(UnknownField, self.travel.fate, "Base", value)
            self.assertEqual(error.kind, "Base")
            self.assertIs(error.name, value)
        error = raised(UnknownField, self.travel.fate, "Heir", "m")
        self.assertEqual((error.kind, error.name), ("Heir", "m"))

    def test_rule_and_unheard(self):
        self.assertEqual((self.travel.rule("Tag"), self.travel.rule(kind="A")), ("marks", "itself"))
        self.assertEqual(self.travel.unheard("Room"), ("lost", "new", "stays"))
        self.assertEqual(self.travel.unheard(kind="Base"), DUE)
        for kind in ("A", "Heir", "Dot"):
            self.assertIsNone(self.travel.unheard(kind))
        for value in any_values() + ["any"]:
            self.assertIs(raised(UnknownKind, self.travel.rule, value).name, value)
            self.assertIs(raised(UnknownKind, self.travel.unheard, value).name, value)

    def test_table(self):
        table = self.travel.table()
        self.assertEqual(table[:6], [("A", None, "itself"), ("A", "m", "goes"), ("A", "tag", "named"),
                                     ("A", "tags", "goes"), ("A", "note", "goes"), ("A", "to", "goes")])
        self.assertIn(("Base", "c", "lost"), table)
        # An heir has its own fields alone.
        self.assertEqual([row for row in table if row[0] == "Heir"], [("Heir", None, "itself"), ("Heir", "d", "goes")])
        self.assertEqual(len(table), 8 + 14)
        table.clear()
        self.assertEqual(len(self.travel.table()), 22)

    def test_changed_fates(self):
        other = self.travel.changed("A", "to", "new")
        self.assertEqual([row for row in other.table() if row not in self.travel.table()], [("A", "to", "new")])
        self.assertEqual(other.unheard("Room"), ("lost", "new", "stays"))
        self.assertEqual(self.travel.fate("A", "to"), "goes")
        # A field of the base by an heir: its fate is changed in all kinds that have it.
        other = self.travel.changed(kind="Heir", field="c", value="goes")
        self.assertEqual([other.fate(kind, "c") for kind in ("Base", "Heir", "Other")], ["goes"] * 3)
        self.assertEqual(self.travel.changed("A", "tag", "named"), self.travel)

    def test_changed_rules(self):
        other = self.travel.changed("Base", None, "marks")
        self.assertEqual([other.rule(kind) for kind in ("Base", "Heir", "Other")], ["marks", "itself", "itself"])
        other = other.changed("Heir", None, "never")
        self.assertEqual([other.rule(kind) for kind in ("Base", "Heir", "Other")], ["marks", "never", "itself"])
        self.assertEqual(other.fate("Base", "c"), "lost")
        # Heirs keep what they have from the base.
        travel = Travel(TAG, rules={"Base": "marks"}).changed("Base", None, "itself")
        self.assertEqual([travel.rule(kind) for kind in ("Base", "Heir", "Other")], ["itself", "marks", "marks"])

    def test_changed_by_wrong_values(self):
        travel = self.travel
        for value in any_values() + ["any"]:
            self.assertIs(raised(UnknownKind, travel.changed, value, None, None).name, value)
        for value in any_values() + ["d"]:
            if value is not None:
                error = raised(UnknownField, travel.changed, "Base", value, None)
                self.assertEqual(error.kind, "Base")
                self.assertIs(error.name, value)
        for value in any_values() + ["stay", "marks"]:
            error = raised(BadTravel, travel.changed, "A", "to", value)
            self.assertEqual((error.kind, error.field), ("A", "to"))
        for value in any_values() + ["marks", "goes"]:
            error = raised(BadTravel, travel.changed, "Dot", None, value)
            self.assertEqual((error.kind, error.field), ("Dot", None))
        # The kind that has the field as its own is named.
        error = raised(BadTravel, travel.changed, "Heir", "b", "lost")
        self.assertEqual((error.kind, error.field), ("Base", "b"))
        self.assertEqual(raised(UnknownField, travel.changed, "Heir", "m", "no").kind, "Heir")
        self.assertEqual(travel.table(), Travel(TAG, fates={("Base", "c"): "lost", ("A", "tag"): "named"},
                                                rules={"Tag": "marks"}).table())

    def test_changed_saving_travels(self):
        reader = TAG.with_kinds([Kind("A", [mark("m")]), *[TAG.kind_named(name) for name in TAG.names[1:]]])
        travel = Travel(TAG, reader=reader, unheard={"Base": ("lost", "new", "new")}, rules={"Base": "marks"})
        other = travel.changed("A", "to", "new")
        self.assertEqual((other.target, other.is_saving, other.unheard("Base")), (reader, True, ("lost", "new", "new")))
        self.assertEqual(raised(BadTravel, travel.changed, "A", "to", "stays").field, "to")
        self.assertEqual(Travel(TAG, reader=TAG).changed("A", None, "never").is_saving, True)
        self.assertEqual(Travel(TAG).changed("A", None, "never").is_saving, False)


class TestEquality(unittest.TestCase):
    def test_given_or_not(self):
        self.assertEqual(Travel(TAG), Travel(tag_house()))
        self.assertEqual(Travel(TAG), Travel(TAG, fates={("A", "to"): "goes"}, rules={"A": "itself", "Heir": "itself"},
                                             unheard={"Base": DUE}))
        self.assertEqual(Travel(TAG, rules={"Base": "marks"}),
                         Travel(TAG, rules={"Base": "marks", "Heir": "marks", "Other": "marks"}))
        self.assertNotEqual(Travel(TAG, rules={"Base": "marks"}),
                            Travel(TAG, rules={"Base": "marks", "Heir": "itself"}))

    def test_each_part(self):
        other = TAG.with_kinds([TAG.kind_named(name) for name in TAG.names], root="Dot")
        fewer = TAG.with_kinds([Kind("A", [mark("m")]), *[TAG.kind_named(name) for name in TAG.names[1:]]])
        different = [Travel(TAG), Travel(other), Travel(TAG, reader=TAG), Travel(TAG, reader=fewer),
                     Travel(TAG, fates={("A", "to"): "new"}), Travel(TAG, fates={("A", "to"): "lost"}),
                     Travel(TAG, rules={"A": "marks"}), Travel(TAG, unheard={"Base": ("lost", "goes", "goes")}),
                     Travel(TAG, unheard={"Room": ("lost", "goes", "goes")}), None, "travel"]
        for at, one in enumerate(different):
            for another in different[:at]:
                self.assertNotEqual(one, another)
        self.assertEqual(Travel(TAG, reader=fewer), Travel(tag_house(), reader=fewer))

    def test_unequal_sources_with_one_target(self):
        kinds = [TAG.kind_named(name) for name in TAG.names[:7]]
        first = TAG.with_kinds([*kinds, Kind("Dot", [mark("a")])])
        other = TAG.with_kinds([*kinds, Kind("Dot", [mark("a", was=["b"])])])
        one, two = Travel(first, reader=TAG), Travel(other, reader=TAG)
        self.assertEqual((one.target, one.table()), (two.target, two.table()))
        self.assertNotEqual(one, two)


if __name__ == "__main__":
    unittest.main()
