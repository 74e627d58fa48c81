"""[6.5], [6.6]: slots of fields along a row, and field tables."""

import random
import unittest

from tests.drawn import drawn_edition, drawn_house, drawn_row
from tests.samples import any_values, link, many, mark, node_house, raised
from waypairs.editions import reader_fault, source_field
from waypairs.errors import BadReader, BadRow, UnknownField, UnknownKind
from waypairs.fieldtables import FieldTable, astray, fate_at, kept_fields, slots
from waypairs.kinds import House, Kind
from waypairs.rows import Row
from waypairs.travels import Travel


def edition(*root, leaf=(), base=(), heir=()):
    """A house of a root kind, a leaf, a base and its heir, with these fields."""
    return House("Root", [Kind("Root", root), Kind("Leaf", leaf), Kind("Base", base, heirs=True),
                          Kind("Heir", heir, base="Base")])


def row_of(*houses, fates=None):
    """The row through these houses and back to the first one; fates of the travels by their numbers."""
    fates = {} if fates is None else fates
    following = [*houses[1:], houses[0]]
    return Row([Travel(writer, reader=reader, fates=fates.get(k))
                for k, (writer, reader) in enumerate(zip(houses, following), 1)])


HOME = edition(mark("a"), link("b", "Leaf"), many("c", "Root"), mark("d", default=4))
OTHER = edition(mark("x", was=["a"]), link("b", "Leaf"), mark("d"), many("e", "Leaf"))
BACK = edition(mark("a", was=["x"]), link("b", "Leaf"), many("c", "Root"), mark("d", default=4))


class TestSlots(unittest.TestCase):
    def test_copying(self):
        row = Row([Travel(HOME), Travel(HOME, fates={("Root", "b"): "lost"}), Travel(HOME)])
        for name in "abcd":
            self.assertEqual(slots(row=row, kind="Root", field=name), [name] * 4)
            self.assertIs(astray(row, "Root", name), False)
        self.assertEqual(kept_fields(row=row, kind="Root"), ["a", "c", "d"])
        self.assertEqual([fate_at(row, k, "Root", "b") for k in (1, 2, 3)], ["goes", "lost", "goes"])

    def test_renamed_dropped_and_added_again(self):
        row = row_of(BACK, OTHER)
        self.assertEqual(slots(row, "Root", "a"), ["a", "x", "a"])
        self.assertEqual(slots(row, "Root", "b"), ["b", "b", "b"])
        self.assertEqual(slots(row, "Root", "c"), [None, None, "c"])
        self.assertEqual(slots(row, "Root", "d"), [None, None, "d"])
        self.assertEqual([astray(row, "Root", name) for name in "abcd"], [False, False, True, True])
        self.assertEqual(kept_fields(row, "Root"), ["a", "b"])
        self.assertEqual([fate_at(row, k, "Root", "c") for k in (1, 2)], ["lost", "lost"])
        # Without the former name it is not named back.
        row = row_of(HOME, OTHER)
        self.assertEqual((slots(row, "Root", "a"), kept_fields(row, "Root")), ([None, None, "a"], ["b"]))

    def test_the_fate_of_a_field_under_its_later_name(self):
        row = row_of(BACK, OTHER, fates={2: {("Root", "x"): "lost"}})
        self.assertEqual([fate_at(row, k, "Root", "a") for k in (1, 2)], ["goes", "lost"])
        self.assertEqual((kept_fields(row, "Root"), astray(row, "Root", "a")), (["b"], False))
        row = row_of(BACK, OTHER, fates={1: {("Root", "a"): "lost", ("Root", "b"): "new"}})
        self.assertEqual([fate_at(row, k, "Root", "a") for k in (1, 2)], ["lost", "goes"])
        self.assertEqual([fate_at(row, travel=k, kind="Root", field="b") for k in (1, 2)], ["new", "goes"])

    def test_three_houses(self):
        third = edition(mark("y", was=["x", "a"]), mark("d", default=4))
        home = edition(mark("a", was=["z", "y"]), mark("d", default=4))
        middle = edition(mark("x", was=["a"]), mark("d", default=4))
        row = row_of(home, middle, third)
        self.assertEqual(slots(row, "Root", "a"), ["a", "x", "y", "a"])
        self.assertEqual(slots(row, "Root", "d"), ["d"] * 4)
        self.assertEqual(kept_fields(row, "Root"), ["a", "d"])

    def test_lost_behind_a_house(self):
        # The middle house still has what the last one takes, but it comes from nowhere.
        home = edition(mark("a"), mark("b", was=["x"]))
        other = edition(mark("a"), mark("x", default=0))
        row = row_of(home, other)
        self.assertEqual(slots(row, "Root", "b"), [None, "x", "b"])
        self.assertEqual([fate_at(row, k, "Root", "b") for k in (1, 2)], ["lost", "goes"])
        self.assertTrue(astray(row, "Root", "b"))

    def test_exchanged_fields(self):
        home = edition(mark("a", was=["y"]), mark("b", was=["x"]))
        other = edition(mark("x", was=["a"]), mark("y", was=["b"]))
        row = row_of(home, other)
        self.assertEqual((slots(row, "Root", "a"), slots(row, "Root", "b")), (["b", "y", "a"], ["a", "x", "b"]))
        self.assertEqual((astray(row, "Root", "a"), kept_fields(row, "Root")), (True, []))
        row = row >> row
        self.assertEqual((slots(row, "Root", "a"), kept_fields(row, "Root")), (["a", "x", "b", "y", "a"], ["a", "b"]))

    def test_another_default(self):
        row = row_of(edition(mark("a")), edition(mark("a", default=1)))
        self.assertEqual((slots(row, "Root", "a"), kept_fields(row, "Root")), ([None, None, "a"], []))

    def test_an_heir_whose_field_goes_another_way(self):
        home = edition(base=[mark("a", was=["c"])], heir=[mark("b", was=["d"])])
        other = edition(base=[mark("c", was=["b", "a"])], heir=[mark("d", was=["a"])])
        row = row_of(home, other, fates={2: {("Base", "c"): "lost"}})
        self.assertEqual(slots(row, "Base", "a"), ["a", "c", "a"])
        self.assertEqual(slots(row, "Heir", "a"), ["b", "c", "a"])
        self.assertEqual(slots(row, "Heir", "b"), ["a", "d", "b"])
        self.assertEqual([fate_at(row, 2, "Heir", name) for name in "ab"], ["lost", "goes"])
        self.assertEqual([fate_at(row, 1, "Heir", name) for name in "ab"], ["goes", "goes"])

    def test_errors(self):
        row = row_of(BACK, OTHER)
        for value in any_values() + ["any", "Lost"]:
            for call in (slots, astray):
                self.assertIs(raised(UnknownKind, call, row, value, "a").name, value)
                self.assertIs(raised(UnknownKind, call, row, value, value).name, value)
            self.assertIs(raised(UnknownKind, kept_fields, row, value).name, value)
            self.assertIs(raised(UnknownKind, fate_at, row, 1, value, value).name, value)
        for value in any_values() + ["x", "e", "Root"]:
            for call in (slots, astray):
                error = raised(UnknownField, call, row, "Root", value)
                self.assertEqual(error.kind, "Root")
                self.assertIs(error.name, value)
            self.assertIs(raised(UnknownField, fate_at, row, 2, "Root", value).name, value)
        for value in any_values() + [0, 3, "1"]:
            self.assertIs(raised(BadRow, fate_at, row, value, "No", "no").travel, value)
            self.assertIs(raised(BadRow, fate_at, row, value, "Root", "a").travel, value)


class TestTables(unittest.TestCase):
    def test_between(self):
        table = FieldTable.between(writer=BACK, reader=OTHER)
        self.assertEqual((table.writer, table.reader, len(table)), (BACK, OTHER, 4))
        self.assertEqual(list(table), [("Root", "x", "a"), ("Root", "b", "b"), ("Root", "d", None),
                                       ("Root", "e", None)])
        self.assertTrue(all(type(entry) is tuple for entry in table))
        self.assertEqual([table["Root", name] for name in "xbde"], ["a", "b", None, None])
        self.assertEqual((table.taken_of("Root"), table.dropped_of("Root"), table.added_of("Root")),
                         (["a", "b"], ["c", "d"], ["d", "e"]))
        self.assertIs(table.is_plain, False)

    def test_entries_of_heirs(self):
        home = edition(mark("r"), base=[mark("a")], heir=[link("b")])
        table = FieldTable.between(home, home)
        self.assertEqual(list(table), [("Root", "r", "r"), ("Base", "a", "a"), ("Heir", "a", "a"), ("Heir", "b", "b")])
        self.assertIs(table.is_plain, True)
        self.assertEqual(len(table), 4)
        self.assertEqual((table.taken_of("Heir"), table.dropped_of("Heir"), table.added_of("Heir")),
                         (["a", "b"], [], []))

    def test_no_editions(self):
        for reader in (node_house(), edition().with_kinds([Kind("Root", []), Kind("Leaf", [])])):
            self.assertEqual(raised(BadReader, FieldTable.between, HOME, reader).kind, reader_fault(HOME, reader))

    def test_through(self):
        table = FieldTable.through(travel=Travel(HOME, fates={("Root", "b"): "lost", ("Root", "a"): "goes",
                                                              ("Root", "c"): "new"}))
        self.assertEqual(list(table), [("Root", "a", "a"), ("Root", "b", None), ("Root", "c", "c"), ("Root", "d", "d")])
        self.assertEqual((table.dropped_of("Root"), table.added_of("Root"), table.is_plain), (["b"], ["b"], False))
        self.assertIs(FieldTable.through(Travel(HOME)).is_plain, True)
        self.assertEqual(FieldTable.through(Travel(HOME)), FieldTable.between(HOME, HOME))
        table = FieldTable.through(Travel(BACK, reader=OTHER, fates={("Root", "a"): "lost", ("Root", "d"): "lost"}))
        self.assertEqual([name for _, _, name in table], [None, "b", None, None])

    def test_put_together(self):
        first, second = FieldTable.between(BACK, OTHER), FieldTable.between(OTHER, BACK)
        both = first >> second
        self.assertEqual((both.writer, both.reader), (BACK, BACK))
        self.assertEqual(list(both), [("Root", "a", "a"), ("Root", "b", "b"), ("Root", "c", None), ("Root", "d", None)])
        # A field that the second table has, but the first one has not.
        third = FieldTable.between(OTHER, OTHER)
        self.assertEqual((first >> third)["Root", "e"], None)
        self.assertEqual(list(third >> third), list(third))

    def test_that_do_not_fit(self):
        table = FieldTable.between(HOME, OTHER)
        self.assertEqual(raised(BadRow, lambda: table >> table).travel, 2)
        self.assertEqual(raised(BadRow, lambda: table >> FieldTable.between(BACK, OTHER)).travel, 2)
        self.assertEqual(raised(BadRow, lambda: FieldTable.between(node_house(), node_house()) >> table).travel, 2)

    def test_along(self):
        row = row_of(BACK, OTHER)
        table = FieldTable.along(travels=row)
        self.assertEqual([table["Root", name] for name in "abcd"], ["a", "b", None, None])
        self.assertEqual(table, FieldTable.along(list(row)))
        self.assertEqual(table, FieldTable.through(row[1]) >> FieldTable.through(row[2]))
        self.assertEqual(FieldTable.along([row[1]]), FieldTable.through(row[1]))
        self.assertEqual(FieldTable.along((row[1],)).reader, OTHER)
        self.assertEqual(FieldTable.along([row[1], row[2]] * 5), table)
        for k in range(2, 9):
            travels = [Travel(HOME)] * (k - 1) + [row[2]] + [Travel(node_house())] * 3
            self.assertEqual(raised(BadRow, FieldTable.along, travels).travel, k)
        self.assertEqual(raised(BadRow, FieldTable.along, []).travel, 0)
        self.assertEqual(raised(BadRow, FieldTable.along, ()).travel, 0)

    def test_equality(self):
        table = FieldTable.between(BACK, OTHER)
        self.assertEqual(table, FieldTable.through(Travel(BACK, reader=OTHER)))
        self.assertNotEqual(table, FieldTable.through(Travel(BACK, reader=OTHER, fates={("Root", "a"): "lost"})))
        # Equal entries, but another writer.
        writer = edition(mark("a"), link("b", "Leaf"))
        self.assertEqual(list(FieldTable.between(writer, OTHER)), list(table))
        self.assertNotEqual(FieldTable.between(writer, OTHER), table)
        self.assertNotEqual(table, list(table))
        # Equal entries, but another reader.
        reader = edition(mark("x", was=["a"]), link("b", "Leaf"), mark("d"), many("e", "Root"))
        self.assertEqual(list(FieldTable.between(BACK, reader)), list(table))
        self.assertNotEqual(FieldTable.between(BACK, reader), table)

    def test_any_values(self):
        table = FieldTable.between(BACK, OTHER)
        for value in any_values() + ["any"]:
            for call in (table.taken_of, table.dropped_of, table.added_of):
                self.assertIs(raised(UnknownKind, call, value).name, value)
            self.assertIs(raised(UnknownKind, lambda: table[value, "no"]).name, value)
        for value in any_values() + ["a", "c"]:
            error = raised(UnknownField, lambda: table["Root", value])
            self.assertEqual(error.kind, "Root")
            self.assertIs(error.name, value)

    def test_lists_are_new(self):
        table = FieldTable.between(BACK, OTHER)
        table.taken_of("Root").clear()
        self.assertEqual(table.taken_of("Root"), ["a", "b"])


class TestDrawn(unittest.TestCase):
    def test_brackets_and_slots(self):
        chance = random.Random(31)
        for _ in range(150):
            row = drawn_row(chance, drawn_house(chance), chance.randrange(1, 5), saving=0.7)
            tables = [FieldTable.through(travel) for travel in row]
            along = FieldTable.along(row)
            if len(row) == 3:
                self.assertEqual(along, (tables[0] >> tables[1]) >> tables[2])
                self.assertEqual(along, tables[0] >> (tables[1] >> tables[2]))
            for kind, field, name in along:
                found = slots(row, kind, field)
                self.assertEqual(len(found), len(row) + 1)
                lost = "lost" in [fate_at(row, k, kind, field) for k in range(1, len(row) + 1)]
                self.assertEqual(name, None if lost else found[0])
                self.assertEqual(field in kept_fields(row, kind), name == field)
                for k, travel in enumerate(row, 1):
                    taken = None if found[k] is None else source_field(travel.source, travel.target, kind, found[k])
                    self.assertEqual(found[k - 1], taken)

    def test_the_three_lists(self):
        chance = random.Random(32)
        for _ in range(100):
            house = drawn_house(chance)
            reader = drawn_edition(chance, house)
            table = FieldTable.between(house, reader)
            for kind in house.names:
                names = [field.name for field in house.fields_of(kind)]
                taken, dropped = table.taken_of(kind), table.dropped_of(kind)
                self.assertEqual(sorted(taken + dropped), sorted(names))
                self.assertEqual([name for name in names if name in taken], taken)
                self.assertEqual([name for name in names if name in dropped], dropped)
                entries = [(field, name) for one, field, name in table if one == kind]
                self.assertEqual(sorted(taken), sorted(name for _, name in entries if name is not None))
                self.assertEqual(table.added_of(kind), [field for field, name in entries if name is None])


if __name__ == "__main__":
    unittest.main()
