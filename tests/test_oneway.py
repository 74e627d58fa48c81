"""[7.1], [7.2]: words of ways, and broken fields."""

import random
import unittest

from tests.drawn import drawn_house, drawn_row
from tests.plainstandings import after
from tests.plainways import drawn_journeys, seen_ways, travels_seen
from tests.samples import any_values, link, many, mark, raised
from waypairs.errors import BadStanding, UnknownField, UnknownKind
from waypairs.fieldtables import astray, fate_at
from waypairs.kinds import House, Kind
from waypairs.oneway import Lens
from waypairs.rows import Row
from waypairs.travels import Travel

HOUSE = House("Root", [
    Kind("Root", [mark("m"), link("to", "Root"), link("other", "Root"), many("base", "Base"), link("tag", "Tag"),
                  link("any")]),
    Kind("Base", [link("root", "Root")], heirs=True),
    Kind("Heir", [mark("h")], base="Base"),
    Kind("Tag", [mark("code")], key="code", registered=True),
    Kind("Lone", [mark("x"), link("to", "Lone")]),
])


def row_by(*fates, rules=None):
    """A copying row; the fates of the own fields of Root by travel."""
    return Row([Travel(HOUSE, fates={("Root", name): fate for name, fate in one.items()}, rules=rules)
                for one in fates])


def wrong_words(size):
    """Values that are no words for a row of this many travels."""
    return any_values() + [
        ("Root",), ("Root", (), ()), ["Root", ()], ("Root", []), ("Root", [1]), ("No", ()), ("any", ()), (0, ()),
        ("Root", (0,)), ("Root", (size + 1,)), ("Root", (-1,)), ("Root", (1, 1)), ("Root", (True,)), ("Root", ("1",)),
        ("Root", (1, None)), ("Root", None), ("Root", 1), (["Root"], ()), ("Root", ((1,),)), ("Root", (2, 1)),
        ("Root", ([1],)), ("one", "Root", (1,)), ((), "Root"), ("Root", {})]


class TestLens(unittest.TestCase):
    def test_attributes(self):
        row = row_by({}, {}, {})
        lens = Lens(row=row)
        self.assertEqual((lens.row, lens.size, lens.start), (row, 3, ("one", "Root", (1, 2, 3))))
        self.assertEqual(Lens(row_by({})).start, ("one", "Root", (1,)))

    def test_fates_and_rules(self):
        lens = Lens(Row([Travel(HOUSE, fates={("Root", "to"): "new", ("Base", "root"): "lost"}),
                         Travel(HOUSE, fates={("Root", "to"): "stays"}, rules={"Base": "never", "Tag": "marks"})]))
        self.assertEqual(lens.fates(kind="Root", field="to"), ("new", "stays"))
        self.assertEqual(lens.fates("Heir", "root"), ("lost", "goes"))
        self.assertEqual(lens.fates("Heir", "h"), ("goes", "goes"))
        self.assertEqual((lens.rules(kind="Heir"), lens.rules("Tag"), lens.rules("Root")),
                         (("itself", "never"), ("itself", "marks"), ("itself", "itself")))

    def test_astray_fields(self):
        reader = HOUSE.with_kinds([Kind("Root", [mark("n", was=["m"]), link("to", "Root")]),
                                   *[HOUSE.kind_named(name) for name in HOUSE.names[1:]]])
        lens = Lens(Row([Travel(HOUSE, reader=reader), Travel(reader, reader=HOUSE)]))
        self.assertIsNone(lens.fates("Root", "m"))
        self.assertIsNone(lens.fates("Root", "any"))
        self.assertEqual(lens.fates("Root", "to"), ("goes", "goes"))
        self.assertEqual(lens.broken(("Root", ())), ["m", "other", "base", "tag", "any"])
        self.assertIsNone(lens.step(("Root", ()), "other", "Root"))

    def test_errors(self):
        lens = Lens(row_by({}, {}))
        for value in any_values() + ["any", "No"]:
            self.assertIs(raised(UnknownKind, lens.fates, value, value).name, value)
            self.assertIs(raised(UnknownKind, lens.rules, value).name, value)
        for value in any_values() + ["h", "Root"]:
            error = raised(UnknownField, lens.fates, "Root", value)
            self.assertEqual(error.kind, "Root")
            self.assertIs(error.name, value)

    def test_drawn(self):
        chance = random.Random(51)
        for _ in range(80):
            row = drawn_row(chance, drawn_house(chance), chance.randrange(1, 5))
            lens = Lens(row)
            for kind in row.home.names:
                self.assertEqual(lens.rules(kind), tuple(travel.rule(kind) for travel in row))
                for field in row.home.fields_of(kind):
                    fates = tuple(fate_at(row, k, kind, field.name) for k in range(1, row.size + 1))
                    expected = None if astray(row, kind, field.name) else fates
                    self.assertEqual(lens.fates(kind, field.name), expected)


class TestSteps(unittest.TestCase):
    def stepped(self, fates, made):
        """MADE behind a step by a field that has these fates."""
        lens = Lens(row_by(*[{"tag": fate} for fate in fates]))
        word = lens.step(word=("Root", made), field="tag", kind="Tag")
        if word is None:
            self.assertEqual(lens.broken(word=("Root", made)), ["tag"])
            return None
        self.assertEqual((word[0], lens.broken(("Root", made))), ("Tag", []))
        return word[1]

    def test_each_fate(self):
        for fate, one, none in [("goes", (1,), ()), ("new", (1,), ()), ("stays", (), ()), ("named", (), ()),
                                ("lost", None, ())]:
            self.assertEqual(self.stepped([fate], (1,)), one)
            self.assertEqual(self.stepped([fate], ()), none)

    def test_several_travels(self):
        self.assertEqual(self.stepped(["goes", "new", "goes", "new"], (1, 2, 3, 4)), (1, 2, 3, 4))
        self.assertEqual(self.stepped(["goes", "stays", "goes", "stays"], (1, 2, 3, 4)), (1, 3))
        self.assertEqual(self.stepped(["goes", "stays", "goes", "stays"], (2, 3)), (3,))
        # Named leaves out the earlier ones too, but only where it is one of MADE.
        self.assertEqual(self.stepped(["goes", "new", "named", "goes"], (1, 2, 3, 4)), (4,))
        self.assertEqual(self.stepped(["goes", "new", "named", "goes"], (1, 3)), ())
        self.assertEqual(self.stepped(["goes", "new", "named", "goes"], (1, 2, 4)), (1, 2, 4))
        self.assertEqual(self.stepped(["named", "stays", "goes", "named"], (1, 2, 3)), (3,))
        self.assertEqual(self.stepped(["named", "stays", "goes", "named"], (1, 2, 3, 4)), ())
        # Lost breaks only where it is one of MADE, also ahead of named.
        self.assertEqual(self.stepped(["goes", "lost"], (1,)), (1,))
        self.assertIsNone(self.stepped(["goes", "lost"], (1, 2)))
        self.assertIsNone(self.stepped(["lost", "named"], (1, 2)))
        self.assertIsNone(self.stepped(["named", "lost"], (1, 2)))

    def test_all(self):
        chance = random.Random(52)
        for _ in range(40):
            fates = [chance.choice(["goes", "new", "stays", "named", "lost"]) for _ in range(4)]
            for bits in range(16):
                made = tuple(k for k in range(1, 5) if bits >> (k - 1) & 1)
                self.assertEqual(self.stepped(fates, made), after(made, fates))

    def test_admitted_kinds(self):
        lens = Lens(row_by({"any": "stays"}, {}))
        for kind in HOUSE.names:
            self.assertEqual(lens.step(("Root", (1, 2)), "any", kind), (kind, (2,)))
        self.assertEqual(lens.step(("Root", (1,)), "base", "Heir"), ("Heir", (1,)))
        self.assertEqual(lens.step(("Heir", (2,)), "root", "Root"), ("Root", (2,)))

    def test_broken_fields(self):
        lens = Lens(row_by({"m": "lost", "base": "lost"}, {"any": "lost", "m": "lost"}))
        self.assertEqual(lens.broken(("Root", ())), [])
        self.assertEqual(lens.broken(("Root", (1,))), ["m", "base"])
        self.assertEqual(lens.broken(("Root", (2,))), ["m", "any"])
        self.assertEqual(lens.broken(("Root", (1, 2))), ["m", "base", "any"])
        self.assertEqual(lens.broken(("Heir", (1, 2))), [])
        self.assertIsNone(lens.step(("Root", (1,)), "base", "Base"))
        self.assertEqual(lens.step(("Root", (2,)), "base", "Base"), ("Base", (2,)))

    def test_errors_in_their_order(self):
        lens = Lens(row_by({"base": "lost"}, {}))
        for value in wrong_words(2):
            for call in (lens.broken, lens.way_to):
                raised(BadStanding, call, value)
            raised(BadStanding, lens.step, value, "no", "No")
            raised(BadStanding, lens.step, value, "to", "Root")
        for value in any_values() + ["h", "Root"]:
            error = raised(UnknownField, lens.step, ("Root", (1,)), value, "No")
            self.assertEqual(error.kind, "Root")
            self.assertIs(error.name, value)
        for value in any_values() + ["No", "any", "Tag", "Base"]:
            raised(BadStanding, lens.step, ("Root", (1,)), "to", value)
            raised(BadStanding, lens.step, ("Root", (1,)), "m", value)
        raised(BadStanding, lens.step, ("Root", (1,)), "m", "Root")
        raised(BadStanding, lens.step, ("Root", (1,)), "base", "Tag")
        self.assertIsNone(lens.step(("Root", (1,)), "base", "Base"))


class TestWords(unittest.TestCase):
    def test_words_and_ways(self):
        lens = Lens(row_by({"to": "stays", "any": "lost"}, {"tag": "named"}))
        words = lens.words()
        self.assertEqual(words[0], ("Root", (1, 2)))
        self.assertEqual(sorted(words), sorted([
            ("Root", (1, 2)), ("Root", (2,)), ("Base", (1, 2)), ("Heir", (1, 2)), ("Base", (2,)), ("Heir", (2,)),
            ("Tag", ()), ("Lone", (2,)), ("Tag", (2,))]))
        self.assertEqual(lens.way_to(word=("Root", (1, 2))), [])
        self.assertEqual(lens.way_to(("Root", (2,))), [("to", "Root")])
        self.assertEqual(lens.way_to(("Lone", (2,))), [("to", "Root"), ("any", "Lone")])
        # A word that is right, but not reached.
        for word in [("Root", ()), ("Tag", (1,)), ("Lone", (1, 2))]:
            raised(BadStanding, lens.way_to, word)

    def test_lists_are_new(self):
        lens = Lens(row_by({}))
        lens.words().clear()
        lens.way_to(("Tag", (1,))).clear()
        self.assertEqual(len(lens.way_to(("Tag", (1,)))), 1)
        self.assertEqual(len(lens.words()), 5)

    def test_drawn(self):
        chance = random.Random(53)
        for _ in range(100):
            lens = Lens(drawn_row(chance, drawn_house(chance), chance.randrange(1, 5)))
            layers = self.plain_words(lens)
            words = lens.words()
            self.assertEqual(sorted(words), sorted(layers))
            self.assertEqual([layers[word] for word in words], sorted(layers.values()))
            for word in words:
                way = lens.way_to(word)
                self.assertEqual(len(way), layers[word])
                at = lens.start[1:]
                for field, kind in way:
                    at = lens.step(at, field, kind)
                self.assertEqual(at, word)

    def plain_words(self, lens):
        """The number of steps of a shortest way to each word."""
        home = lens.row.home
        found = {lens.start[1:]: 0}
        for count in range(200):
            for kind, made in [word for word, steps in found.items() if steps == count]:
                for name in home.slots_of(kind):
                    new = after(made, lens.fates(kind, name))
                    if new is not None:
                        for other in home.admitted(home.field_of(kind, name).target):
                            found.setdefault((other, new), count + 1)
        return found


class TestJourneys(unittest.TestCase):
    def test_words_tell_by_which_travels_things_were_made(self):
        chance = random.Random(54)
        seen = {}
        for lens, made in drawn_journeys(chance, 120):
            for way in seen_ways(lens, made, 40):
                self.assertEqual(travels_seen(way), way.word[1])
                # Where nothing is known in the place of another thing, these are the travels by which it was made.
                if not any("marks" in lens.rules(kind) for kind in lens.row.home.names):
                    self.assertEqual(made.made_by(way.levels[-1]), way.word[1])
                seen[way.word[1]] = True
        self.assertGreater(len(seen), 10)


if __name__ == "__main__":
    unittest.main()
