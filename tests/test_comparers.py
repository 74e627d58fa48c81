"""[9.1], [9.2]: comparers and their texts."""

import random
import unittest

from tests.drawn import drawn_house
from tests.plaincompare import drawn_comparer
from tests.samples import any_values, link, many, mark, raised, town_house
from waypairs.comparers import Comparer, comparer_text, read_comparer
from waypairs.errors import BadComparer, BadText, UnknownField, UnknownKind
from waypairs.kinds import House, Kind

HOUSE = House("Root", [
    Kind("Root", [mark("m"), link("a", "Base"), many("b", "any")]),
    Kind("Base", [mark("m"), link("x", "Root")], heirs=True),
    Kind("Heir", [link("y", "Root")], base="Base"),
    Kind("Next", [link("y", "Root")], base="Base"),
])
FULL = Comparer(HOUSE, out=[("Heir", "y"), ("Base", "x"), ("Root", "m")],
                guards={"Heir": "none", "Root": "way left", "Base": "lasting match"})
TEXT = "comparer\nout Root m\nout Base x\nout Heir y\nguard Root way left\nguard Base lasting match\nguard Heir none"


class TestMaking(unittest.TestCase):
    def test_guards(self):
        self.assertEqual(Comparer.GUARDS, (
            "none", "way left", "way right", "way pair", "way map", "way match",
            "lasting left", "lasting right", "lasting pair", "lasting map", "lasting match"))

    def test_out(self):
        self.assertEqual((FULL.house, FULL.out), (HOUSE, (("Root", "m"), ("Base", "x"), ("Heir", "y"))))
        self.assertEqual(Comparer(HOUSE).out, ())
        repeated = Comparer(house=HOUSE, out=(("Root", "b"), ("Root", "a"), ("Root", "b")), guards={})
        self.assertEqual(repeated.out, (("Root", "a"), ("Root", "b")))

    def test_arguments_are_copied(self):
        out, guards = [("Root", "m")], {"Root": "way left"}
        comparer = Comparer(HOUSE, out=out, guards=guards)
        out.clear()
        guards["Base"] = "way map"
        self.assertEqual(comparer, Comparer(HOUSE, out=[("Root", "m")], guards={"Root": "way left"}))

    def test_wrong_pairs(self):
        for pair in [("Zz", "m"), ("Root", "x"), ("root", "m"), ("any", "m"), ("Heir", "m"), ("Heir", "x"), ("m", "Root"),
                     ("Root", ""), ("", "")]:
            self.assertEqual(raised(BadComparer, Comparer, HOUSE, out=[pair]).kind, pair[0])
            self.assertEqual(raised(BadComparer, Comparer, HOUSE, out=[("Root", "m"), pair, ("Yy", "m")]).kind, pair[0])
            # Pairs come before guards.
            self.assertEqual(raised(BadComparer, Comparer, HOUSE, out=[pair], guards={"Aa": "none"}).kind, pair[0])

    def test_wrong_guards(self):
        for guard in ["", "left", "way", "way none", "lasting", "way  left", "left way", "Way left", "way left ", "None"]:
            self.assertEqual(raised(BadComparer, Comparer, HOUSE, guards={"Root": "none", "Heir": guard}).kind, "Heir")
        self.assertEqual(raised(BadComparer, Comparer, HOUSE, guards={"Root": "x", "Next": "x", "Base": "way"}).kind,
                         "Base")
        for kind in ("Zz", "any", "", "root"):
            self.assertEqual(raised(BadComparer, Comparer, HOUSE, guards={kind: "none"}).kind, kind)
        self.assertEqual(raised(BadComparer, Comparer, HOUSE, guards={"Zz": "none", "Aa": "none", "Root": "x"}).kind,
                         "Aa")

    def test_equality(self):
        self.assertEqual(FULL, Comparer(HOUSE, out=FULL.out, guards={
            "Root": "way left", "Base": "lasting match", "Heir": "none"}))
        other = HOUSE.with_kinds([HOUSE.kind_named(name) for name in HOUSE.names], root="Base")
        entries = {"Heir": "none", "Root": "way left", "Base": "lasting match"}
        for unequal in (Comparer(other, out=FULL.out, guards=entries), Comparer(HOUSE, guards=entries),
                        Comparer(HOUSE, out=FULL.out, guards={**entries, "Base": "way match"}),
                        # An entry none is another thing than no entry.
                        Comparer(HOUSE, out=FULL.out, guards={"Root": "way left", "Base": "lasting match"}),
                        None, TEXT, HOUSE):
            self.assertFalse(FULL == unequal)
        self.assertFalse(Comparer(HOUSE, guards={"Next": "none"}) == Comparer(HOUSE))


class TestAnswers(unittest.TestCase):
    def test_guard_of_and_entry(self):
        self.assertEqual([FULL.guard_of(kind=kind) for kind in HOUSE.names],
                         ["way left", "lasting match", "none", "lasting match"])
        self.assertEqual([FULL.entry(kind=kind) for kind in HOUSE.names], ["way left", "lasting match", "none", None])
        empty = Comparer(HOUSE)
        self.assertEqual([(empty.guard_of(kind), empty.entry(kind)) for kind in HOUSE.names], [("none", None)] * 4)
        heir = Comparer(HOUSE, guards={"Heir": "way map", "Base": "none"})
        self.assertEqual([heir.guard_of(kind) for kind in HOUSE.names], ["none", "none", "way map", "none"])

    def test_is_in(self):
        spots = [(kind, field.name) for kind in HOUSE.names for field in HOUSE.fields_of(kind)]
        out = [(kind, field) for kind, field in spots if not FULL.is_in(kind=kind, field=field)]
        self.assertEqual(out, [("Root", "m"), ("Base", "x"), ("Heir", "x"), ("Heir", "y"), ("Next", "x")])
        self.assertIs(FULL.is_in("Next", "y"), True)
        self.assertIs(FULL.is_in("Root", "m"), False)

    def test_any_values(self):
        for value in any_values() + ["any", "root", ("Root",)]:
            for call in (FULL.guard_of, FULL.entry):
                self.assertEqual(raised(UnknownKind, call, value).name, value)
            self.assertEqual(raised(UnknownKind, FULL.is_in, value, value).name, value)
            error = raised(UnknownField, FULL.is_in, "Root", value)
            self.assertEqual((error.kind, error.name), ("Root", value))
        raised(UnknownField, FULL.is_in, "Base", "y")

    def test_with_guard(self):
        for guard in Comparer.GUARDS:
            changed = FULL.with_guard(kind="Next", guard=guard)
            self.assertEqual((changed.entry("Next"), changed.guard_of("Next"), changed.out), (guard, guard, FULL.out))
            self.assertEqual(FULL.with_guard("Root", guard).entry("Root"), guard)
            self.assertEqual(changed.with_guard("Next", None), FULL)
        self.assertIsNone(FULL.entry("Next"))
        without = FULL.with_guard("Heir", None)
        self.assertEqual((without.entry("Heir"), without.guard_of("Heir")), (None, "lasting match"))
        # Nothing changes.
        self.assertEqual(FULL.with_guard("Next", None), FULL)
        self.assertEqual(FULL.with_guard("Root", "way left"), FULL)
        for kind, guard in [("Zz", "none"), ("Zz", None), ("Root", "way"), ("Heir", ""), ("any", "none")]:
            self.assertEqual(raised(BadComparer, FULL.with_guard, kind, guard).kind, kind)

    def test_with_out_and_in(self):
        changed = FULL.with_out(kind="Root", field="b")
        self.assertEqual(changed.out, (("Root", "m"), ("Root", "b"), ("Base", "x"), ("Heir", "y")))
        self.assertEqual(changed.with_in(kind="Root", field="b"), FULL)
        self.assertEqual(FULL.with_in("Base", "x").out, (("Root", "m"), ("Heir", "y")))
        # It is so already.
        self.assertEqual(FULL.with_out("Base", "x"), FULL)
        self.assertEqual(FULL.with_in("Base", "m"), FULL)
        for call in (FULL.with_out, FULL.with_in):
            for kind, field in [("Zz", "m"), ("Root", "x"), ("Heir", "x"), ("any", "m"), ("", "")]:
                self.assertEqual(raised(BadComparer, call, kind, field).kind, kind)


class TestText(unittest.TestCase):
    def test_there_and_back(self):
        self.assertEqual(comparer_text(comparer=FULL), TEXT)
        self.assertEqual(read_comparer(house=HOUSE, text=TEXT), FULL)
        self.assertEqual(comparer_text(Comparer(HOUSE)), "comparer")
        self.assertEqual(read_comparer(HOUSE, "comparer"), Comparer(HOUSE))
        chance = random.Random(92)
        for _ in range(100):
            comparer = drawn_comparer(chance, chance.choice([HOUSE, town_house(), drawn_house(chance)]), 0.3)
            lines = comparer_text(comparer).split("\n")
            self.assertEqual(read_comparer(comparer.house, "\n".join(lines)), comparer)
            # The lines behind the first one may have any order.
            rest = lines[1:]
            chance.shuffle(rest)
            self.assertEqual(read_comparer(comparer.house, "\n".join(["comparer", *rest])), comparer)

    def test_no_string(self):
        for value in any_values():
            if not isinstance(value, str):
                self.assertEqual(raised(BadText, read_comparer, HOUSE, value).line, -1)

    def test_wrong_lines(self):
        lines = TEXT.split("\n")
        wrong = ["", " ", "comparer", "out", "out Root", "out Root a m", "out Zz m", "out Root x", "out Heir x", "out a Root",
                 "out  Root a", "out Root a ", " out Root a", "Out Root a", "guard", "guard Next", "guard Zz none",
                 "guard Next way", "guard Next left", "guard Next way  left", "guard Next way left ", "guard Next none x",
                 "guard Next way left right", "guard  Next none", " guard Next none", "guards Next none", "in Root a",
                 "guard any none", "out any m", "guard Next None", "out Root\ta"]
        for at in range(1, len(lines) + 1):
            for line in wrong:
                text = "\n".join([*lines[:at], line, *lines[at:]])
                self.assertEqual(raised(BadText, read_comparer, HOUSE, text).line, at)
        for line in ["", "Comparer", "comparer ", " comparer", "comparer x", "out Root m", "guard Next none"]:
            self.assertEqual(raised(BadText, read_comparer, HOUSE, "\n".join([line, *lines[1:]])).line, 0)
            self.assertEqual(raised(BadText, read_comparer, HOUSE, line).line, 0)

    def test_repeated_lines(self):
        for line in TEXT.split("\n")[1:]:
            self.assertEqual(raised(BadText, read_comparer, HOUSE, TEXT + "\n" + line).line, 7)
        self.assertEqual(raised(BadText, read_comparer, HOUSE, TEXT + "\nguard Heir way left").line, 7)
        self.assertEqual(raised(BadText, read_comparer, HOUSE, "comparer\nout Root a\nout Root a\nx").line, 2)
        self.assertEqual(raised(BadText, read_comparer, HOUSE, TEXT + "\n").line, 7)


if __name__ == "__main__":
    unittest.main()
