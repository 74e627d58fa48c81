"""Webs that grow along two ways, move by move."""

import unittest

from tests.samples import link, many, mark
from waypairs.kinds import House, Kind
from waypairs.oneway import Lens
from waypairs.rows import Row
from waypairs.standings import moves_from
from waypairs.travels import Travel
from waypairs.twoways import TwoWays

HOUSE = House("Root", [Kind("Root", [many("all", "Ice"), link("to", "Root")]),
                       Kind("Ice", [link("a", "Leaf"), link("b", "Leaf")], frozen=True), Kind("Leaf", [mark("m")])])
LENS = Lens(Row([Travel(HOUSE, fates={("Root", "all"): "new", ("Ice", "b"): "stays"})]))


class TestMoves(unittest.TestCase):
    def grown(self, *standings):
        """The two ways behind moves through these standings, from the start on."""
        made = TwoWays(HOUSE)
        for before, behind in zip([LENS.start, *standings], standings):
            moves = moves_from(LENS, before)
            cost = min(cost for one, cost in moves if one == behind)
            made.make(moves[behind, cost])
        return made

    def test_one_way_and_two(self):
        made = self.grown(("one", "Ice", (1,)), ("two", "Leaf", (1,), "Leaf", (), (False,)))
        self.assertEqual((made.first, made.second), ([("all", 0), ("a", None)], [("all", 0), ("b", None)]))
        self.assertEqual((made.ends, len(made.grown)), ((2, 3), 4))

    def test_meeting(self):
        torn = ("torn", "Ice", (1,), (1,), (False,), (False,))
        made = self.grown(torn)
        self.assertEqual((made.first, made.second, made.ends), ([("all", 0)], [("all", 1)], (1, 1)))
        made = self.grown(torn, ("torn", "Leaf", (1,), (1,), (False,), (False,)))
        self.assertEqual((made.first, made.second), ([("all", 0), ("a", None)], [("all", 1), ("a", None)]))
        self.assertEqual((made.ends, len(made.grown)), ((2, 2), 3))

    def test_a_waiting_way(self):
        held = ("held", "Root", (1,), "Root", (1,), (True,), True)
        made = self.grown(held, held[:-3] + ((1,), (True,), True))
        self.assertEqual((made.first, made.second, made.ends), ([("to", None)] * 2, [], (2, 0)))

    def test_ways_that_change_places(self):
        torn = ("torn", "Ice", (1,), (1,), (False,), (False,))
        made = self.grown(torn)
        made.make(("swap", None, None))
        self.assertEqual((made.first, made.second, made.ends), ([("all", 1)], [("all", 0)], (1, 1)))
        made.make(("join", None, None))
        self.assertEqual((made.first, made.second, made.ends), ([("all", 1)], [("all", 0)], (1, 1)))

    def test_marks(self):
        for alike in (False, True):
            made = self.grown(("one", "Ice", (1,)), ("two", "Leaf", (1,), "Leaf", (), (False,)))
            made.give_marks(alike)
            web = made.grown.finished()
            self.assertEqual(web[2, "m"] == web[3, "m"], alike)
            self.assertNotEqual(web[3, "m"], 0)


if __name__ == "__main__":
    unittest.main()
