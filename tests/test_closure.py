"""[7.10]: the reached standings of a row, with their least costs."""

import random
import unittest
from unittest import mock

from tests.drawn import drawn_home, drawn_house, drawn_row
from tests.plainstandings import plain_closure
from tests.samples import any_values, link, many, mark, node_house, raised
from waypairs.closure import Closure
from waypairs.errors import BadStanding, Endless, TooLarge
from waypairs.journeys import ideal, journey
from waypairs.kinds import Field, House, Kind
from waypairs.manners import Manners
from waypairs.matching import alike
from waypairs.oneway import Lens
from waypairs.rowrings import ring_of
from waypairs.rows import Row
from waypairs.standings import steps, told_by
from waypairs.travels import Travel

YES, NO = True, False
LEAVES = House("Root", [Kind("Root", [link("one", "Leaf"), link("two", "Leaf")]), Kind("Leaf", [mark("m")])])


def large_row(kinds):
    """A row with very many standings: any thing can hold any other by fields of many fates."""
    chance = random.Random(1)
    names = ["A" + letter for letter in "abcdefghijkl"[:kinds]]
    fields = [Field(letter, "list", target="any") for letter in "abcdefgh"]
    house = House("Aa", [Kind(name, fields) for name in names])
    return Row([Travel(house, fates={(name, field.name): chance.choice(["goes", "new", "stays"])
                                     for name in names for field in fields}) for _ in range(4)])


class Closures(unittest.TestCase):
    def check(self, row):
        """Checks the table of a row and all its trails; the closure."""
        lens = Lens(row)
        closure = Closure(lens=lens)
        table = closure.table()
        self.assertTrue(all(type(entry) is tuple and type(entry[1]) is int for entry in table))
        costs = dict(table)
        self.assertEqual(len(costs), len(table))
        self.assertEqual([cost for _, cost in table], sorted(cost for _, cost in table))
        self.assertEqual((table[0], costs[lens.start]), ((lens.start, 0), 0))
        self.assertEqual(costs, plain_closure(row))
        for standing, cost in table:
            self.assertEqual(closure.cost(standing=standing), cost)
            for following, more in steps(lens, standing):
                self.assertLessEqual(costs[following], cost + more)
            trail = closure.trail(standing=standing)
            self.assertEqual((trail[0], trail[-1]), (lens.start, standing))
            for before, after in zip(trail, trail[1:]):
                self.assertIn((after, costs[after] - costs[before]), steps(lens, before))
        return closure


class TestClosure(Closures):
    def test_a_small_table(self):
        closure = self.check(Row([Travel(LEAVES, fates={("Root", "two"): "new"})]))
        self.assertEqual(sorted(closure.table(), key=repr), sorted([
            (("one", "Root", (1,)), 0), (("one", "Leaf", (1,)), 2), (("two", "Leaf", (1,), "Leaf", (1,), (NO,)), 2),
            (("torn", "Leaf", (1,), (1,), (NO,), (NO,)), 2), (("held", "Root", (1,), "Leaf", (1,), (YES,), YES), 1),
            (("held", "Root", (1,), "Leaf", (1,), (NO,), YES), 1)], key=repr))
        self.assertEqual(closure.trail(("torn", "Leaf", (1,), (1,), (NO,), (NO,))),
                         [("one", "Root", (1,)), ("torn", "Leaf", (1,), (1,), (NO,), (NO,))])

    def test_steps_without_cost(self):
        house = House("Root", [Kind("Root", [many("all", "Ice")]), Kind("Ice", [many("leaves", "Leaf")], frozen=True),
                               Kind("Leaf", [mark("m")])])
        closure = self.check(Row([Travel(house, fates={("Root", "all"): "new"}, rules={"Leaf": "marks"})]))
        # Two leaves of one thing of Ice are in one memo, those of two things are not.
        self.assertEqual(closure.cost(("joined", "Leaf", (1,), (1,))), 4)
        self.assertEqual(closure.cost(("torn", "Leaf", (1,), (1,), (NO,), (NO,))), 4)
        closure = self.check(Row([Travel(house, rules={"Leaf": "marks"})]))
        self.assertEqual(closure.cost(("joined", "Leaf", (1,), (1,))), 4)
        self.assertEqual(closure.trail(("joined", "Leaf", (1,), (1,)))[-2][0], "two")

    def test_words_change_places(self):
        house = House("Root", [Kind("Root", [link("a", "Ice"), link("b", "Ice")]),
                               Kind("Ice", [link("leaf", "Leaf"), link("more", "Leaf")], frozen=True),
                               Kind("Leaf", [mark("m")])])
        closure = self.check(Row([Travel(house, fates={("Root", "a"): "stays", ("Ice", "leaf"): "new"})]))
        for made, others in (((1,), ()), ((), (1,))):
            self.assertEqual(closure.cost(("torn", "Ice", made, others, (NO,), (NO,))), 2)
            self.assertEqual(closure.cost(("torn", "Leaf", made, others, (NO,), (NO,))), 4)

    def test_any_values(self):
        lens = Lens(Row([Travel(LEAVES), Travel(LEAVES)]))
        closure = Closure(lens)
        start = lens.start
        wrong = [list(start), start[1:], (*start, ()), ("one", "Root", (1, True)), ("one", "Root", [1, 2]), (start,),
                 ("one", ["Root"], (1, 2)), ("two", "Leaf", (1, 2), "Leaf", (1, 2), (1, 1)), "one", (start, 0),
                 ("joined", "Root", (1,), (1,))]
        # Right standings that are not reached.
        unreached = [("one", "Root", ()), ("one", "Leaf", (1,)), ("torn", "Leaf", (1, 2), (1, 2), (NO, NO), (YES, YES)),
                     ("joined", "Leaf", (1, 2), (1, 2))]
        for value in any_values() + wrong + unreached:
            self.assertIsNone(closure.cost(value))
            raised(BadStanding, closure.trail, value)

    def test_lists_are_new(self):
        closure = Closure(Lens(Row([Travel(LEAVES)])))
        closure.table().clear()
        closure.trail(("one", "Leaf", (1,))).clear()
        self.assertEqual((len(closure.trail(("one", "Leaf", (1,)))), closure.table()[0][1]), (2, 0))

    def test_an_endless_row(self):
        row = Row([Travel(node_house(), fates={("Node", "all"): "new"}), Travel(node_house())])
        self.assertEqual(ring_of(Lens(row)).travel, 1)
        closure = self.check(row)
        self.assertGreater(len(closure.table()), 3)

    def test_too_many_standings(self):
        self.assertEqual(raised(TooLarge, Closure, Lens(large_row(12))).count, 6000)

    def test_as_many_as_there_may_be(self):
        row = Row([Travel(LEAVES, fates={("Root", "two"): "new"})])
        with mock.patch("waypairs.closure.MOST_STANDINGS", 6):
            self.assertEqual(len(Closure(Lens(row)).table()), 6)
        with mock.patch("waypairs.closure.MOST_STANDINGS", 5):
            raised(TooLarge, Closure, Lens(row))

    def test_several_thousand(self):
        names = ["A" + letter for letter in "abcdefghijkl"]
        fields = [Field("a", "list", target="any"), Field("b", "link", target="any")]
        house = House("Aa", [Kind(name, fields) for name in names])
        row = Row([Travel(house, fates={(name, "a"): "new" for name in names[k::3]}) for k in range(3)])
        self.assertGreater(len(self.check(row).table()), 1500)


class TestDrawn(Closures):
    def test_sets_that_tell_by_no_standing_see_the_ideal_pair(self):
        chance = random.Random(92)
        quiet = telling = 0
        for _ in range(70):
            house = drawn_house(chance, with_kinds=chance.choice([(), ("Tag",), ("Froz", "Leaf")]))
            fates = chance.choice([("goes",), ("goes", "new"), ("goes", "named"), ("goes", "stays", "new", "named")])
            row = drawn_row(chance, house, chance.randrange(1, 4), saving=0.2, fates=fates)
            lens = Lens(row)
            if ring_of(lens) is not None:
                continue
            told = [least for standing, _ in Closure(lens).table() for least in told_by(lens, standing)]
            for _ in range(6):
                web = drawn_home(chance, house, chance.choice([2, 4, 7]), marks=chance.choice([1, 3]))
                try:
                    pair = journey(row, web).pair()
                except (Endless, TooLarge):
                    continue
                for manners in Manners.every():
                    if not any(least.within(manners) for least in told):
                        self.assertTrue(alike(pair, ideal(web), manners))
                        quiet += 1
                    else:
                        telling += not alike(pair, ideal(web), manners)
        self.assertGreater(min(quiet, telling), 100)

    def test_drawn(self):
        chance = random.Random(91)
        count = 0
        for _ in range(60):
            row = drawn_row(chance, drawn_house(chance), chance.randrange(1, 5), saving=0.3)
            try:
                Closure(Lens(row))
            except TooLarge:
                self.assertGreater(len(plain_closure(row)), 6000)
            else:
                count += len(self.check(row).table())
        self.assertGreater(count, 1000)


if __name__ == "__main__":
    unittest.main()
