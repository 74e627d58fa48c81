"""[7.11]: examples."""

import random
import unittest

from tests.drawn import drawn_house, drawn_row
from tests.rowsamples import check_example, town_row
from tests.samples import any_values, link, many, mark, raised
from waypairs.closure import Closure
from waypairs.errors import BadStanding, TooLarge
from waypairs.kinds import House, Kind
from waypairs.leastweb import Example, made_example
from waypairs.manners import Manners
from waypairs.oneway import Lens
from waypairs.rowrings import ring_of
from waypairs.rows import Row
from waypairs.standings import fault, told_by
from waypairs.travels import Travel
from waypairs.verdicts import judge

NONE, ASK, OLD, SET, ASK_OLD, ASK_SET, OLD_SET, ALL = Manners.every()
YES, NO = True, False


def long_row(kinds):
    """A row whose words change only on long ways: a ring of so many kinds leads to the one that can change them."""
    names = ["A" + letter for letter in "abcdefghijk"[:kinds]]
    made = [Kind("Root", [many("all", names[0])])]
    made += [Kind(name, [link("next", other)]) for name, other in zip(names, names[1:])]
    made.append(Kind(names[-1], [link("p", names[0]), link("q", names[0])]))
    house = House("Root", made)
    return Row([Travel(house, fates={(names[-1], "p"): "stays"}), Travel(house, fates={(names[-1], "q"): "stays"}),
                Travel(house, fates={("Root", "all"): "new"})])


class Examples(unittest.TestCase):
    def made(self, row, standing, manners):
        """The example for a standing of a row, after it was checked."""
        lens = Lens(row)
        closure = Closure(lens)
        example = made_example(lens=lens, closure=closure, standing=standing, manners=manners)
        self.assertIsInstance(example, Example)
        self.assertEqual(example.fault, fault(lens, standing))
        self.assertIn(example.manners, told_by(lens, standing))
        check_example(self, row, example, manners, closure.cost(standing))
        words = [self.word(lens, example.web, way) for way in (example.one_way, example.other_way)]
        made = standing[2:3] if standing[0] == "one" else standing[2:4]
        if standing[0] in ("two", "held"):
            made = (standing[2], standing[4])
        # In a held standing the second way waits.
        made = made[::-1] if standing[0] == "held" else made
        self.assertEqual(words, [made[0], made[-1]])
        return example

    def word(self, lens, web, way):
        """The travels of the word of a way."""
        word = lens.start[1:]
        for count, (field, _) in enumerate(way, 1):
            word = lens.step(word, field, web.kind_of(web.thing_at(way[:count])))
        return word[1]


class TestEachFault(Examples):
    def test_a_lost_mark(self):
        example = self.made(town_row({("Leaf", "n"): "lost"}), ("one", "Leaf", (1,)), NONE)
        self.assertEqual((len(example.web), example.client[-1]), (3, ("see", "a")))
        self.assertEqual(example.one_way, [("a", None), ("leaf", None)])

    def test_a_lost_link_and_list(self):
        for field in ("ice", "all"):
            example = self.made(town_row({("Root", field): "lost"}), ("one", "Root", (1,)), NONE)
            self.assertEqual((len(example.web), example.one_way, example.client), (2, [], [("see", "here")]))
            self.assertEqual(len(example.web.steps(0)), 1)

    def test_a_field_astray(self):
        def house(first, second):
            return House("Root", [Kind("Root", [first, second]), Kind("Dot", [])])
        for make in (link, many):
            home = house(make("a", "Dot", was=["y"]), make("b", "Dot", was=["x"]))
            other = house(make("x", "Dot", was=["a"]), make("y", "Dot", was=["b"]))
            row = Row([Travel(home, reader=other), Travel(other, reader=home)])
            self.assertEqual(len(self.made(row, ("one", "Root", (1, 2)), ALL).web), 2)

    def test_merged(self):
        row = town_row(None, {"Node": "marks"})
        example = self.made(row, ("two", "Node", (1,), "Node", (1,), (YES,)), SET)
        self.assertEqual((len(example.web), example.manners), (4, NONE))
        house = House("Root", [Kind("Root", [mark("m"), link("to", "Root"), many("all", "Root")])])
        row = Row([Travel(house), Travel(house, rules={"Root": "marks"})])
        for standing, things in [(("held", "Root", (1, 2), "Root", (1, 2), (YES, YES), YES), 2),
                                 (("two", "Root", (1, 2), "Root", (1, 2), (YES, YES)), 4)]:
            self.assertEqual(len(self.made(row, standing, NONE).web), things)

    def test_shared(self):
        row = town_row({("Node", "leaf"): "stays", ("Root", "cube"): "stays"})
        for kind, manners, last in [("Leaf", ASK_OLD, "same"), ("Leaf", OLD_SET, "mark"), ("Ice", ASK_OLD, "same"),
                                    ("Dot", ALL, "same"), ("Leaf", ALL, "same")]:
            example = self.made(row, ("one", kind, ()), manners)
            words = [line[0] for line in example.client if line[0] != "step"]
            self.assertEqual(words[0], last)
            self.assertEqual({line[2] for line in example.client if line[0] == "step"} & {"here", "old"},
                             {"here", "old"})

    def test_copied(self):
        row = town_row({("Root", "tag"): "goes"})
        example = self.made(row, ("one", "Tag", (1,)), ASK_OLD)
        self.assertEqual(example.client, [("step", "a", "here", "tag", None), ("step", "b", "old", "tag", None),
                                          ("same", "a", "b")])
        example = self.made(row, ("one", "Tag", (1,)), OLD_SET)
        self.assertEqual([line[0] for line in example.client], ["step", "step", "mark", "see"])
        # The key is no mark that a client can change.
        self.assertEqual(example.client[2][2], "tone")

    def test_torn(self):
        row = town_row({("Root", "a"): "new"})
        standing = ("torn", "Node", (1,), (1,), (NO,), (NO,))
        for manners, words in [(ASK, ["same"]), (SET, ["mark", "see"]), (ASK_SET, ["same"]), (ALL, ["same"])]:
            example = self.made(row, standing, manners)
            self.assertEqual([line[0] for line in example.client if line[0] != "step"], words)
            self.assertEqual(len(example.web), 2)

    def test_torn_things_without_marks(self):
        for field, word in [(link("leaf", "Leaf"), "link"), (many("leaf", "Leaf"), "clear")]:
            house = House("Root", [Kind("Root", [link("a", "Node"), link("b", "Node")]), Kind("Node", [field]),
                                   Kind("Leaf", [])])
            row = Row([Travel(house, rules={"Node": "never"})])
            example = self.made(row, ("torn", "Node", (1,), (1,), (NO,), (YES,)), SET)
            self.assertEqual([line[0] for line in example.client if line[0] != "step"], [word, "see"])
            self.assertEqual(len(example.web), 3)
            self.assertEqual(len(self.made(row, ("torn", "Node", (1,), (1,), (NO,), (YES,)), ASK).web), 2)

    def test_torn_by_a_ring(self):
        house = House("Root", [Kind("Root", [link("a", "Node"), link("free", "Node")]),
                               Kind("Node", [link("root", "Root")])])
        row = Row([Travel(house, rules={"Root": "never"})])
        for manners in (ASK, SET):
            example = self.made(row, ("torn", "Root", (1,), (1,), (NO,), (YES,)), manners)
            # The link that leads round the ring is the one that is changed.
            self.assertEqual((len(example.web), sorted(map(len, (example.one_way, example.other_way)))), (2, [0, 2]))
        house = House("Root", [Kind("Root", [many("all", "Root")])])
        row = Row([Travel(house, fates={("Root", "all"): "stays"})])
        example = self.made(row, ("torn", "Root", (), (1,), (NO,), (NO,)), SET)
        self.assertEqual((len(example.web), example.client[1:]), (1, [("clear", "a", "all"), ("see", "here")]))

    def test_torn_behind_frozen_things(self):
        house = House("Root", [Kind("Root", [link("a", "Ice"), link("b", "Ice")]),
                               Kind("Ice", [link("cold", "Cold"), many("colds", "Cold")], frozen=True),
                               Kind("Cold", [link("leaf", "Leaf"), many("leaves", "Leaf")], frozen=True),
                               Kind("Leaf", [mark("m")])])
        one = Travel(house, fates={("Root", "b"): "new", ("Ice", "cold"): "new"}, rules={"Cold": "never"})
        other = Travel(house, fates={("Root", "a"): "stays", ("Cold", "leaf"): "stays"})
        for travels, least in [([one], 4), ([other], 6), ([one, other], 14), ([other, one], 14)]:
            lens = Lens(Row(travels))
            told = [standing for standing, _ in Closure(lens).table() if fault(lens, standing) == "torn"]
            self.assertGreaterEqual(len(told), least)
            for standing in told:
                for manners in told_by(lens, standing):
                    self.made(lens.row, standing, manners)

    def test_joined(self):
        house = House("Root", [Kind("Root", [many("all", "Leaf"), link("one", "Leaf")]),
                               Kind("Leaf", [mark("m"), mark("n")])])
        row = Row([Travel(house, rules={"Leaf": "marks"})])
        for manners in (ASK, SET):
            example = self.made(row, ("joined", "Leaf", (1,), (1,)), manners)
            self.assertEqual(len(example.web), 3)
            self.assertNotEqual(example.web[1, "m"], example.web[1, "n"])

    def test_two_places_of_one_list(self):
        house = House("Root", [Kind("Root", [many("all", "Leaf")]), Kind("Leaf", [mark("m")])])
        row = Row([Travel(house, rules={"Leaf": "marks"})])
        example = self.made(row, ("joined", "Leaf", (1,), (1,)), ASK)
        self.assertEqual([example.one_way, example.other_way], [[("all", 0)], [("all", 1)]])
        row = Row([Travel(house, rules={"Leaf": "never"})])
        example = self.made(row, ("torn", "Leaf", (1,), (1,), (NO,), (YES,)), SET)
        self.assertEqual((len(example.web), example.web[0, "all"]), (2, [1, 1]))


class TestRefused(Examples):
    def test_any_values_and_standings(self):
        row = town_row({("Root", "a"): "new"})
        lens = Lens(row)
        closure = Closure(lens)
        unreached = [("one", "Root", ()), ("one", "Dot", ()), ("torn", "Dot", (1,), (1,), (NO,), (NO,)),
                     ("torn", "Node", (1,), (1,), (NO,), (YES,)), ("joined", "Leaf", (1,), (1,))]
        for value in any_values() + unreached:
            for manners in (NONE, ALL):
                raised(BadStanding, made_example, lens, closure, value, manners)

    def test_standings_that_are_not_told(self):
        row = town_row({("Root", "a"): "new", ("Root", "ice"): "stays", ("Root", "cube"): "stays"})
        lens = Lens(row)
        closure = Closure(lens)
        for standing, cost in closure.table():
            least = told_by(lens, standing)
            for manners in Manners.every():
                if any(one.within(manners) for one in least):
                    self.made(row, standing, manners)
                else:
                    raised(BadStanding, made_example, lens, closure, standing, manners)

    def test_more_than_sixty_things(self):
        # Two ways that part at the root go round the ring three times each, so they have no thing in common.
        for kinds, count in [(9, 54), (10, 60), (11, None)]:
            row = long_row(kinds)
            self.assertIsNone(ring_of(Lens(row)))
            standing = ("torn", row.home.names[-1], (3,), (3,), (YES, YES, NO), (NO, NO, NO))
            lens = Lens(row)
            closure = Closure(lens)
            self.assertEqual(closure.cost(standing), 6 * kinds)
            if count is None:
                self.assertEqual(raised(TooLarge, made_example, lens, closure, standing, ASK).count, 60)
            else:
                self.assertEqual(len(self.made(row, standing, ASK).web), count)
            # To change a thing it must hold another one.
            if kinds == 9:
                self.assertEqual(len(self.made(row, standing, SET).web), count + 1)
            else:
                self.assertEqual(raised(TooLarge, made_example, lens, closure, standing, SET).count, 60)

    def test_a_verdict_with_a_long_example(self):
        names = ["A" + letter for letter in "abcdefghijkl"]
        kinds = [Kind(name, [mark("m"), link("next", other)]) for name, other in zip(names, names[1:])]
        house = House(names[0], [*kinds, Kind(names[-1], [mark("m")])])
        row = Row([Travel(house)] * 3 + [Travel(house, fates={(names[-1], "m"): "lost"})])
        verdict = judge(row)
        self.assertEqual(verdict.faults(), [("lost", names[-1], 22, [NONE])])
        self.assertEqual(len(verdict.example(OLD).web), 12)


class TestRowsThatLose(Examples):
    def test_a_mark_is_taken_rather_than_a_link(self):
        # What the link held would be known as the root itself, by marks that are lost: then the last walk never ends.
        home = House("Root", [Kind("Root", [link("c", "Root"), mark("b")])])
        reader = House("Root", [Kind("Root", [mark("b", default=1), link("p", "Root", was=["c"])])])
        row = Row([Travel(home, reader=reader, rules={"Root": "never"}),
                   Travel(reader, rules={"Root": "never"}, fates={("Root", "p"): "stays"}),
                   Travel(reader, rules={"Root": "marks"}), Travel(reader, rules={"Root": "never"}, reader=home)])
        verdict = judge(row)
        self.assertEqual(verdict.faults(), [("lost", "Root", 0, [NONE])])
        check_example(self, row, verdict.example(NONE), NONE, 0)

    def test_what_a_lost_list_holds(self):
        # In the other edition all roots have equal marks: a second one would be known there as the first one.
        home = House("Root", [Kind("Root", [many("a", "Root"), many("b", "any")]), Kind("Dot", [])])
        reader = House("Root", [Kind("Root", [many("x", "Root", was=["a"]), many("y", "any", was=["b"]), mark("z")]),
                                Kind("Dot", [])])
        row = Row([Travel(home, reader=reader), Travel(reader, rules={"Root": "marks"}),
                   Travel(reader, fates={("Root", "x"): "new", ("Root", "y"): "new"}, reader=home)])
        example = self.made(row, ("one", "Root", (1, 2, 3)), NONE)
        self.assertEqual([kind for kind, _ in example.web.things()], ["Root", "Dot"])

    def test_a_slot_that_is_kept_is_taken(self):
        house = House("Root", [Kind("Root", [link("a", "Node"), link("b", "Node")]),
                               Kind("Node", [link("lost", "Leaf"), link("kept", "Leaf")]), Kind("Leaf", [])])
        row = Row([Travel(house, rules={"Node": "never"}, fates={("Node", "lost"): "lost"})])
        example = self.made(row, ("torn", "Node", (1,), (1,), (NO,), (YES,)), SET)
        self.assertIn(("link", "a", "kept", None), example.client)

    def test_other_faults_of_rows_that_lose(self):
        chance = random.Random(71)
        count = 0
        for _ in range(120):
            row = drawn_row(chance, drawn_house(chance), chance.randrange(1, 4), saving=0.3)
            lens = Lens(row)
            closure = Closure(lens)
            for standing, _ in closure.table()[:200]:
                for manners in told_by(lens, standing):
                    example = made_example(lens, closure, standing, manners)
                    self.assertEqual((example.fault, example.manners), (fault(lens, standing), manners))
                    count += 1
        self.assertGreater(count, 500)


if __name__ == "__main__":
    unittest.main()
