"""[10.6] to [10.8]: heirs that are written into rows, and heirs that nobody has written yet."""

import random
import unittest
from unittest import mock

from tests.drawn import drawn_house, drawn_row
from tests.samples import link, many, mark, raised
from waypairs.errors import BadField, BadHouse, BadKind, TooLarge, UnknownKind
from waypairs.heirs import closed, heir_harm, judge_open, safe_kinds, with_heir
from waypairs.kinds import House, Kind
from waypairs.manners import Manners
from waypairs.manysets import Profile
from waypairs.rows import Row
from waypairs.travels import Travel
from waypairs.verdicts import judge

NONE, ASK, OLD, SET, ASK_OLD, ASK_SET, OLD_SET, ALL = Manners.every()


def house(*more, base=None, root=None):
    """A house with a base that lets heirs; the base's and the root's fields may be given."""
    return House("Root", [
        Kind("Root", root or [link("to", "Base"), many("all", "any")]),
        Kind("Base", base or [mark("age"), link("next", "Base")], heirs=True), Kind("Leaf", [mark("m")]), *more])


HOME = house()
OTHER = house(base=[mark("years", was=["age", "old"]), link("next", "Base")])
BACK = house(base=[mark("age", was=["years"]), link("next", "Base")])
UNHEARD = ("lost", "new", "goes")


def travel(source=HOME, *, unheard=UNHEARD, reader=None, **rules):
    return Travel(source, unheard={"Base": unheard}, reader=reader, rules=rules)


SAVED = Row([travel(BACK, reader=OTHER), travel(OTHER, unheard=("goes", "goes", "new"), reader=BACK)])


def told(row):
    """The names of the least sets of manners that tell by a row."""
    return [manners.names for manners in Profile.of(judge(row))]


class TestWithHeir(unittest.TestCase):
    def test_what_is_written(self):
        heir = Kind("Heir", [many("pages", "Leaf"), mark("rank", default=4), link("boss", "any")], base="Base")
        row = Row([travel(Base="never"), travel(unheard=("goes", "stays", "new"))])
        new = with_heir(row=row, kind=heir)
        self.assertEqual(new.home, house(heir))
        for old, one in zip(row, new):
            self.assertEqual(one.source, new.home)
            self.assertFalse(one.is_saving)
            self.assertEqual(one.table()[:-4], old.table())
            self.assertEqual((one.unheard("Base"), one.unheard("Heir")), (old.unheard("Base"), None))
        self.assertEqual([one.table()[-4:] for one in new], [
            [("Heir", None, "never"), ("Heir", "pages", "goes"), ("Heir", "rank", "lost"), ("Heir", "boss", "new")],
            [("Heir", None, "itself"), ("Heir", "pages", "new"), ("Heir", "rank", "goes"), ("Heir", "boss", "stays")]])

    def test_saving_travels(self):
        heir = Kind("Heir", [mark("rank"), link("boss", "Heir")], base="Base")
        new = with_heir(SAVED, heir)
        self.assertEqual([one.names for one in new.houses()], [("Root", "Base", "Leaf", "Heir")] * 3)
        self.assertTrue(all(one.is_saving for one in new))
        self.assertEqual([one.fields_of("Heir")[0].name for one in new.houses()], ["age", "years", "age"])
        self.assertEqual([(one.fate("Heir", "rank"), one.fate("Heir", "boss")) for one in new],
                         [("lost", "new"), ("goes", "goes")])
        self.assertEqual(new[1].fate("Heir", "age"), "goes")

    def test_a_base_that_is_known_by_marks(self):
        new = with_heir(Row([travel(Base="marks")]), Kind("Heir", [], base="Base"))
        self.assertEqual(new[1].rule("Heir"), "marks")

    def test_wrong_kinds(self):
        other = house(Kind("Heir", [], base="Base"))
        row = Row([Travel(other)])
        for kind in [Kind("New", []), Kind("New", [], base="Leaf"), Kind("New", [], base="Root"), Kind("New", [], base="Heir"),
                     Kind("New", [], base="Zz"), Kind("Heir", [], base="Base"), Kind("Leaf", [], base="Base"),
                     Kind("Base", []), Kind("New", [mark("k")], base="Base", key="k"),
                     Kind("New", [mark("k")], base="Base", key="k", registered=True),
                     Kind("New", [], frozen=True), Kind("New", [], heirs=True),
                     # This comes before wrong fields.
                     Kind("Leaf", [mark("age")], base="Base")]:
            self.assertEqual(raised(BadKind, with_heir, row, kind).name, kind.name)

    def test_wrong_fields(self):
        for fields, name in [([mark("x"), mark("age")], "age"), ([mark("x", was=["y"])], "x"), ([link("next")], "next"),
                             ([mark("x"), link("y", was=["z"]), mark("age")], "y"),
                             ([mark("years")], "years"), ([mark("old")], "old")]:
            heir = Kind("Heir", fields, base="Base")
            self.assertEqual(raised(BadField, with_heir, SAVED, heir).name, name)
        # A name in a house that the row never comes to, or of another kind, is free.
        with_heir(Row([travel()]), Kind("Heir", [mark("years")], base="Base"))
        with_heir(SAVED, Kind("Heir", [link("m", "Leaf"), mark("to")], base="Base"))

    def test_what_the_house_refuses(self):
        row = Row([travel()])
        self.assertEqual(raised(BadHouse, with_heir, row, Kind("Heir", [link("x", "Zz")], base="Base")).name, "Heir")
        nine = [mark(letter) for letter in "abcdefghi"]
        self.assertEqual(raised(BadHouse, with_heir, row, Kind("Heir", nine, base="Base")).name, "Heir")
        with_heir(row, Kind("Heir", nine[:8], base="Base"))
        full = house(*[Kind("A" + letter, []) for letter in "abcdefghi"])
        self.assertEqual(raised(BadHouse, with_heir, Row([Travel(full)]), Kind("Heir", [], base="Base")).name, None)
        # The first house that refuses the kind: the base has more fields in the other one.
        wide = house(base=[*BACK.kind_named("Base").fields, *[mark("a" + letter) for letter in "abcdef"]])
        row = Row([Travel(BACK, reader=wide), Travel(wide, reader=BACK)])
        with_heir(row, Kind("Heir", [mark("x"), mark("y")], base="Base"))
        self.assertEqual(raised(BadHouse, with_heir, row, Kind("Heir", [mark("x"), mark("y"), mark("z")], base="Base")).name,
                         "Heir")


class TestClosed(unittest.TestCase):
    def check_heir(self, row, kind, base, names):
        """Checks the fields of an heir of a closed row, and what its travels do with them."""
        first, second, third, fourth = names
        fields = [mark(first), link(second), link(third), many(fourth)]
        for home in row.houses():
            self.assertEqual(home.kind_named(kind), Kind(kind, fields, base=base))
        for one in row:
            unheard = one.unheard(base)
            self.assertEqual([one.fate(kind, name) for name in names], [unheard[0], unheard[1], unheard[1], unheard[2]])
            self.assertEqual(one.rule(kind), one.rule(base))

    def test_one_heir(self):
        for row in (Row([travel(Base="never"), travel(unheard=("goes", "stays", "new"))]), SAVED):
            new = closed(row=row)
            self.assertEqual(new.home.names, ("Root", "Base", "Leaf", "Heira"))
            self.check_heir(new, "Heira", "Base", ["aaa", "aab", "aac", "aad"])
            self.assertEqual([one.table()[:len(old.table())] for one, old in zip(new, row)],
                             [old.table() for old in row])
            self.assertEqual([one.unheard("Base") for one in new], [old.unheard("Base") for old in row])

    def test_several_heirs_and_names_that_are_taken(self):
        home = House("Root", [
            Kind("Root", [mark("aab", was=["aaa", "zzz"]), link("x", "Heirb")]),
            Kind("Second", [mark("aaf"), link("aae", was=["aad"])], heirs=True), Kind("Heira", [mark("q")], base="Second"),
            Kind("Heirb", [], heirs=True), Kind("Heird", [])])
        row = Row([Travel(home, unheard={"Second": ("goes", "new", "stays"), "Heirb": ("lost", "goes", "lost")},
                          rules={"Heirb": "never"})])
        new = closed(row)
        self.assertEqual(new.home.names, (*home.names, "Heirc", "Heire"))
        names = ["aac", "aag", "aah", "aai"]
        self.check_heir(new, "Heirc", "Second", names)
        self.check_heir(new, "Heire", "Heirb", names)
        # Names of all houses of the row count.
        other = house(base=[mark("age"), link("next", "Base"), mark("aac", was=["aaa"])])
        new = closed(Row([travel(reader=other), Travel(other, reader=HOME)]))
        self.check_heir(new, "Heira", "Base", ["aab", "aad", "aae", "aaf"])

    def test_no_heirs(self):
        home = House("Root", [Kind("Root", [])])
        row = Row([Travel(home)])
        self.assertEqual((closed(row), closed(row, only=[])), (row, row))
        self.assertEqual(closed(SAVED, only=[]), SAVED)

    def test_only(self):
        home = house(Kind("Early", [mark("e")], heirs=True), Kind("Heirb", [mark("h")], base="Early"))
        row = Row([Travel(home)])
        self.assertEqual(closed(row).home.names, (*home.names, "Heira", "Heirc"))
        for only, bases in [(["Early"], ["Early"]), (["Base"], ["Base"]), (["Early", "Base", "Early"], ["Base", "Early"]),
                            ([], [])]:
            new = closed(row=row, only=only)
            self.assertEqual(new.home.names, (*home.names, "Heira", "Heirc")[:len(home) + len(bases)])
            for name, base in zip(["Heira", "Heirc"], bases):
                self.check_heir(new, name, base, ["aaa", "aab", "aac", "aad"])

    def test_wrong_names(self):
        row = Row([travel()])
        for only, error, name in [(["Zz"], UnknownKind, "Zz"), (["any"], UnknownKind, "any"), (["Leaf"], BadKind, "Leaf"),
                                  (["Base", "Root", "Zz"], BadKind, "Root"), (["Base", "Zz", "Root"], UnknownKind, "Zz"),
                                  (["Base", "Base", "Leaf"], BadKind, "Leaf")]:
            self.assertEqual(raised(error, closed, row, only=only).name, name)

    def test_houses_that_pass_their_bounds(self):
        for count in (8, 9):
            full = house(*[Kind("A" + letter, []) for letter in "abcdefghi"[:count]])
            if count == 8:
                self.assertEqual(len(closed(Row([Travel(full)])).home), 12)
            else:
                self.assertEqual(raised(BadHouse, closed, Row([Travel(full)])).name, None)
        for count in (6, 7):
            wide = house(base=[mark(letter) for letter in "abcdefghi"[:count]])
            if count == 6:
                self.assertEqual(len(closed(Row([Travel(wide)])).home.fields_of("Heira")), 10)
            else:
                self.assertEqual(raised(BadHouse, closed, Row([Travel(wide)])).name, "Heira")
                self.assertEqual(raised(BadHouse, judge_open, Row([Travel(wide)])).name, "Heira")


class TestJudgeOpen(unittest.TestCase):
    def test_unheard_rows(self):
        for unheard, open_sets in [
                (("goes", "goes", "goes"), []), (("lost", "goes", "goes"), [()]), (("goes", "lost", "goes"), [()]),
                (("goes", "goes", "lost"), [()]), (("goes", "stays", "goes"), [("ask",), ("set",)]),
                (("goes", "goes", "stays"), [("ask",), ("set",)])]:
            row = Row([travel(unheard=unheard)])
            self.assertEqual(told(row), [])
            verdict = judge_open(row=row)
            self.assertEqual([manners.names for manners in Profile.of(verdict)], open_sets)
            self.assertEqual(verdict.row, closed(row))
            self.assertEqual([manners.names for manners in heir_harm(row=row)], open_sets)
        # New memos can be endless behind heirs that lead back.
        for unheard in (("goes", "new", "goes"), ("goes", "goes", "new")):
            self.assertEqual(judge_open(Row([travel(unheard=unheard)])).word, "endless")
            self.assertEqual(heir_harm(Row([travel(unheard=unheard)])), [NONE])

    def test_harm_beside_harm(self):
        # The row itself tells those who ask and have old; heirs add those who look alone.
        copied = house(Kind("Tag", [mark("k")], key="k", registered=True),
                       root=[link("to", "Base"), link("tag", "Tag")])
        row = Row([travel(copied, unheard=("goes", "goes", "goes"))])
        self.assertEqual((told(row), heir_harm(row)), ([("ask", "old")], []))
        row = Row([travel(copied, unheard=("goes", "goes", "lost"))])
        self.assertEqual(heir_harm(row), [NONE])
        row = Row([travel(copied, unheard=("goes", "goes", "stays"))])
        self.assertEqual(heir_harm(row), [ASK, SET])

    def test_heirs_that_lead_where_nothing_led(self):
        # A kind that is never known harms nobody until an heir can hold it twice.
        home = House("Root", [Kind("Root", [link("to", "Base")]), Kind("Base", [link("leaf", "Leaf")], heirs=True),
                              Kind("Leaf", [mark("m")])])
        row = Row([Travel(home, rules={"Leaf": "never"})])
        self.assertEqual((told(row), heir_harm(row)), ([], [ASK, SET]))
        self.assertEqual(told(with_heir(row, Kind("Heir", [mark("x")], base="Base"))), [])
        self.assertEqual(told(with_heir(row, Kind("Heir", [link("x", "Leaf")], base="Base"))), [("ask",), ("set",)])

    def test_safe_kinds(self):
        home = house(Kind("Early", [mark("e")], heirs=True), root=[link("to", "Base"), link("early", "Early")])
        row = Row([Travel(home, unheard={"Base": ("goes", "goes", "stays")})])
        for manners in Manners.every():
            expected = ["Early"] if "ask" in manners or "set" in manners else ["Base", "Early"]
            self.assertEqual(safe_kinds(row=row, manners=manners), expected)
        row = Row([Travel(home, unheard={"Early": ("lost", "goes", "goes")})])
        self.assertEqual([safe_kinds(row, manners) for manners in (NONE, ALL)], [["Base"], ["Base"]])
        self.assertEqual(safe_kinds(Row([Travel(house())]), ALL), ["Base"])
        self.assertEqual(safe_kinds(Row([Travel(House("Root", [Kind("Root", [])]))]), ALL), [])

    def test_what_judge_raises_goes_out(self):
        row = Row([travel()])
        with mock.patch("waypairs.closure.MOST_STANDINGS", 1):
            for call, args in [(judge_open, []), (heir_harm, []), (safe_kinds, [NONE])]:
                raised(TooLarge, call, row, *args)


class TestDrawn(unittest.TestCase):
    def drawn(self, chance):
        """A row with drawn unheard rows and drawn rules of a few kinds."""
        while True:
            home = drawn_house(chance, with_kinds=("Base",))
            row = drawn_row(chance, home, chance.randrange(1, 4), saving=chance.choice([0, 0.3]),
                            fates=chance.choice([("goes",), ("goes",), ("goes", "named"), ("goes", "new", "stays")]))
            travels = []
            for one in row:
                fates = ["goes", "goes", "goes", "new", "lost"] + ["stays"] * (not one.is_saving)
                unheard = {"Base": (chance.choice(["goes", "goes", "lost"]), chance.choice(fates), chance.choice(fates))}
                chosen = {(kind, field): value for kind, field, value in one.table() if field is not None}
                rules = {kind: value if chance.random() < 0.3 else "itself" for kind, field, value in one.table()
                         if field is None}
                travels.append(Travel(one.source, fates=chosen, rules=rules,
                                      unheard=unheard if chance.random() < 0.4 else None,
                                      reader=one.target if one.is_saving else None))
            return Row(travels)

    def test_written_heirs_tell_no_more_than_the_closed_row(self):
        chance = random.Random(108)
        count = harm = unlike = 0
        while count < 120:
            row = self.drawn(chance)
            try:
                profile, opened = Profile.of(judge(row)), Profile.of(judge_open(row))
            except TooLarge:
                continue
            self.assertTrue(profile.within(opened))
            self.assertEqual(heir_harm(row), [one for one in opened if one not in profile])
            harm += profile != opened
            for _ in range(2):
                written = row
                for name in chance.choice([["Zeb"], ["Zeb", "Yak"]]):
                    written = with_heir(written, self.heir(chance, written.home, name))
                try:
                    found, again = Profile.of(judge(written)), Profile.of(judge_open(written))
                except TooLarge:
                    continue
                self.assertTrue(found.within(opened))
                self.assertEqual(again, opened)
                unlike += found != profile
                count += 1
        self.assertGreater(min(harm, unlike), 5)

    def heir(self, chance, home, name):
        fields = []
        for letter in chance.sample("klmno", chance.randrange(4)):
            own = letter + name.lower()
            if chance.random() < 0.4:
                fields.append(mark(own, default=chance.randrange(3)))
            else:
                fields.append(chance.choice([link, many])(own, chance.choice([*home.names, name, "any"])))
        return Kind(name, fields, base="Base")


if __name__ == "__main__":
    unittest.main()
