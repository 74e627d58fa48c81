"""[10.11] to [10.13]: atlases, quiet and healed runs, editions there and back."""

import itertools
import unittest
from unittest import mock

from tests.rowsamples import TOWN, copy, staying_row
from tests.samples import link, mark, node_house, raised
from waypairs.errors import BadName, BadReader, BadRow, TooLarge
from waypairs.kinds import House, Kind
from waypairs.manners import Manners
from waypairs.manysets import Profile
from waypairs.matrix import Atlas, matrix, there_and_back
from waypairs.rows import Row
from waypairs.travels import Travel
from waypairs.verdicts import judge

NONE, ASK, OLD, SET, ASK_OLD, ASK_SET, OLD_SET, ALL = Manners.every()


def edition(name, *was, root="Root"):
    """Editions of one house, told apart by the name of a mark."""
    return House(root, [Kind("Root", [mark(name, was=was), link("to", "Leaf"), link("too", "Leaf")]),
                        Kind("Leaf", [mark("m")])])


FIRST, SECOND, THIRD = edition("a", "b", "c"), edition("b", "a", "c"), edition("c")
RIGHT = copy()
LOSES, COPIES, NEWS = copy({("Leaf", "n"): "lost"}), copy({("Root", "tag"): "goes"}), copy({("Root", "a"): "new"})
TOWNS = Atlas(TOWN, {"right": RIGHT, "loses": LOSES, "copies": COPIES, "news": NEWS})
SAVED = {"there": Travel(FIRST, reader=SECOND), "back": Travel(SECOND, reader=FIRST), "stay": Travel(FIRST),
         "out": Travel(SECOND), "far": Travel(THIRD), "home": Travel(FIRST, reader=FIRST)}
EDITIONS = Atlas(home=FIRST, travels=SAVED)


def plain_runs(home, travels, most):
    """All runs of at most so many names."""
    found = []
    for count in range(1, most + 1):
        for names in itertools.product(sorted(travels), repeat=count):
            houses = [home] + [travels[name].target for name in names]
            if houses[-1] == home and all(travels[name].source == one for name, one in zip(names, houses)):
                found.append(names)
    return found


class TestAtlas(unittest.TestCase):
    def test_none_to_seven_travels(self):
        letters = "fedcbag"
        for count in range(7):
            atlas = Atlas(TOWN, {letter: RIGHT for letter in letters[:count]})
            self.assertEqual((atlas.home, atlas.names), (TOWN, tuple(sorted(letters[:count]))))
            self.assertEqual(len(atlas.runs(2)), count + count * count)
        for count in (7, 9):
            travels = {"abcdefghi"[at]: RIGHT for at in range(count)}
            self.assertEqual(raised(TooLarge, Atlas, TOWN, travels).count, count)
            self.assertEqual(raised(TooLarge, Atlas, TOWN, {**travels, "a": None, "X": None}).count, count + 1)

    def test_names_that_are_no_words(self):
        for name in ("", "A", "aB", "a b", "a1", "abcdefghi", "a-", " a", "a\n", "1", "a_b"):
            self.assertEqual(raised(BadName, Atlas, TOWN, {"a": RIGHT, name: RIGHT}).name, name)
        self.assertEqual(raised(BadName, Atlas, TOWN, {"c": RIGHT, "b9": RIGHT, "b8": RIGHT, "zZ": RIGHT}).name, "b8")
        self.assertEqual(Atlas(TOWN, {"abcdefgh": RIGHT, "a": RIGHT}).names, ("a", "abcdefgh"))

    def test_the_dict_is_copied(self):
        travels = {"a": RIGHT}
        atlas = Atlas(TOWN, travels)
        travels["b"] = RIGHT
        self.assertEqual((atlas.names, atlas.runs(1)), (("a",), [("a",)]))
        atlas.runs(1).clear()
        self.assertEqual(len(atlas.runs(1)), 1)
        self.assertFalse(atlas == Atlas(TOWN, {"a": RIGHT}))


class TestRuns(unittest.TestCase):
    def test_runs(self):
        for most in range(1, 5):
            self.assertEqual(EDITIONS.runs(most=most), plain_runs(FIRST, SAVED, most))
        self.assertEqual(EDITIONS.runs(), EDITIONS.runs(4))
        self.assertEqual(EDITIONS.runs(1), [("home",), ("stay",)])
        self.assertEqual(EDITIONS.runs(3)[-1], ("there", "out", "back"))
        self.assertEqual(Atlas(SECOND, SAVED).runs(2)[0], ("out",))
        self.assertEqual(Atlas(THIRD, SAVED).runs(), [("far",) * count for count in range(1, 5)])
        self.assertEqual(Atlas(TOWN, SAVED).runs(), [])
        self.assertEqual(Atlas(TOWN, {}).runs(), [])

    def test_row_named(self):
        for names in EDITIONS.runs():
            row = EDITIONS.row_named(names=names)
            self.assertEqual(row, Row([SAVED[name] for name in names]))
            self.assertEqual(EDITIONS.row_named(list(names)), row)

    def test_row_named_errors(self):
        for names, error, told in [
                (("there", "zz", "back"), BadName, "zz"), (("zz",) * 5, BadName, "zz"), (("There",), BadName, "There"),
                (("back", "yy"), BadName, "yy")]:
            self.assertEqual(raised(error, EDITIONS.row_named, names).name, told)
        for names, travel in [
                ((), 0), (("stay",) * 5, 0), (("back",) * 5, 0), (("back",), 1), (("far", "there"), 1), (("out", "back"), 1),
                (("there", "there"), 2), (("there",), 1), (("stay", "there"), 2), (("there", "out", "stay"), 3),
                (("stay", "far"), 2), (("there", "out", "out", "out"), 4)]:
            self.assertEqual(raised(BadRow, EDITIONS.row_named, names).travel, travel)
            self.assertEqual(raised(BadRow, EDITIONS.profile, list(names)).travel, travel)
        self.assertEqual(raised(BadRow, Atlas(TOWN, {}).row_named, []).travel, 0)

    def test_profile(self):
        for names in (("right",), ("loses", "right"), ["news", "copies"], ("right",) * 4):
            self.assertEqual(TOWNS.profile(names=names), Profile.of(judge(TOWNS.row_named(names))))
        self.assertEqual(TOWNS.profile(("copies",)).least_sets, (ASK_OLD, OLD_SET))


class TestQuietAndHealed(unittest.TestCase):
    def check(self, atlas, most):
        runs = atlas.runs(most)
        profiles = {run: Profile.of(judge(atlas.row_named(run))) for run in runs}
        for manners in Manners.every():
            quiet = [run for run in runs if manners not in profiles[run]]
            self.assertEqual(atlas.quiet_runs(manners=manners, most=most), quiet)
            healed = []
            for run in quiet:
                counts = [count for count in range(1, len(run)) if run[:count] in profiles and run[:count] not in quiet]
                if counts:
                    healed.append((run, min(counts)))
            self.assertEqual(atlas.healed(manners=manners, most=most), healed)
            if most == 2:
                self.assertEqual((atlas.quiet_runs(manners), atlas.healed(manners)), (quiet, healed))

    def test_towns(self):
        for most in (1, 2):
            self.check(TOWNS, most)
        small = Atlas(TOWN, {"right": RIGHT, "copies": COPIES, "news": NEWS})
        self.check(small, 3)
        self.check(EDITIONS, 4)
        # What was copied by the way is found by name in the end.
        self.assertEqual(small.healed(ALL), [(("copies", "right"), 1)])
        self.assertEqual(small.healed(OLD), [])
        self.assertEqual(small.healed(OLD_SET, most=3), [
            (("copies", "right"), 1), (("copies", "copies", "right"), 1), (("copies", "right", "right"), 1),
            (("right", "copies", "right"), 2)])

    def test_the_least_beginning(self):
        # A beginning that does not end at home is no run.
        lossy = Travel(FIRST, fates={("Root", "a"): "lost"}, reader=SECOND)
        fresh = Travel(FIRST, rules={"Leaf": "never"})
        atlas = Atlas(FIRST, {"lossy": lossy, "back": SAVED["back"], "fresh": fresh, "stay": SAVED["stay"]})
        self.check(atlas, 4)
        self.assertEqual(atlas.quiet_runs(NONE, 1), [("fresh",), ("stay",)])
        self.assertEqual(atlas.healed(ASK, 4), [])

    def test_more_than_sixty_four_runs(self):
        four = Atlas(TOWN, {letter: RIGHT for letter in "abcd"})
        self.assertEqual(len(four.runs(2)), 20)
        for call in (four.quiet_runs, four.healed):
            self.assertEqual(raised(TooLarge, call, ALL, 3).count, 84)
            self.assertEqual(raised(TooLarge, call, NONE, most=4).count, 340)
        self.assertEqual(len(four.quiet_runs(ALL)), 20)
        # Two travels at home, one there and one back, and two in the other house; or two there and none in it.
        there, back, out = Travel(FIRST, reader=SECOND), Travel(SECOND, reader=FIRST), Travel(SECOND)
        home = {"a": Travel(FIRST), "b": Travel(FIRST)}
        within = Atlas(FIRST, {**home, "c": there, "d": back, "e": out, "f": out})
        self.assertEqual((len(within.runs()), len(within.quiet_runs(ALL, 4)), within.healed(ALL, 4)), (62, 62, []))
        above = Atlas(FIRST, {**home, "c": there, "d": there, "e": back})
        for call in (above.quiet_runs, above.healed):
            self.assertEqual(raised(TooLarge, call, ALL, 4).count, 68)
        with mock.patch("waypairs.matrix.MOST_RUNS", 20):
            self.assertEqual(len(four.quiet_runs(ALL)), 20)
        with mock.patch("waypairs.matrix.MOST_RUNS", 19):
            self.assertEqual(raised(TooLarge, four.quiet_runs, ALL).count, 20)
        self.assertEqual(Atlas(TOWN, {}).quiet_runs(ALL), [])

    def test_what_judge_raises_goes_out(self):
        row = staying_row(6)
        atlas = Atlas(row.home, {"abcd"[at]: travel for at, travel in enumerate(row)})
        self.assertEqual(raised(TooLarge, atlas.profile, list("abcd")).count, 6000)
        with mock.patch("waypairs.closure.MOST_STANDINGS", 1):
            for call, args in [(TOWNS.profile, [("right",)]), (TOWNS.quiet_runs, [ALL, 1]), (TOWNS.healed, [ALL, 1]),
                               (matrix, [[FIRST]])]:
                self.assertEqual(raised(TooLarge, call, *args).count, 1)


class TestEditions(unittest.TestCase):
    def test_there_and_back(self):
        row = there_and_back(writer=FIRST, reader=SECOND)
        self.assertEqual(row, Row([Travel(FIRST, reader=SECOND), Travel(SECOND, reader=FIRST)]))
        self.assertEqual(there_and_back(FIRST, FIRST).size, 2)
        self.assertTrue(all(travel.is_saving for travel in row))

    def test_readers_that_do_not_fit(self):
        for other, there, back in [(node_house(), "Root", "Node"), (edition("a", root="Leaf"), "Root", "Leaf")]:
            self.assertEqual(raised(BadReader, there_and_back, FIRST, other).kind, there)
            self.assertEqual(raised(BadReader, there_and_back, other, FIRST).kind, back)
        # Only the way back does not fit: two fields would take the same one.
        one = House("Root", [Kind("Root", [mark("a", was=["x"]), mark("b", was=["x"])])])
        two = House("Root", [Kind("Root", [mark("x")])])
        Travel(one, reader=two)
        self.assertEqual(raised(BadReader, there_and_back, one, two).kind, "Root")
        self.assertEqual(raised(BadReader, there_and_back, two, one).kind, "Root")
        self.assertEqual(matrix([one, two])[0][1], None)
        self.assertEqual(matrix([one, two])[1][0], None)

    def test_matrix(self):
        found = matrix(houses=[FIRST, SECOND, THIRD, node_house()])
        for at, line in enumerate(found):
            for place, profile in enumerate(line):
                houses = [FIRST, SECOND, THIRD, node_house()]
                if (at == 3) != (place == 3):
                    self.assertIsNone(profile)
                else:
                    self.assertEqual(profile, Profile.of(judge(there_and_back(houses[at], houses[place]))))
        self.assertEqual([[None if one is None else len(one) for one in line] for line in found],
                         [[0, 0, 8, None], [0, 0, 8, None], [8, 8, 0, None], [None, None, None, 0]])

    def test_houses_that_stand_twice(self):
        found = matrix([FIRST, THIRD, FIRST, edition("c")])
        self.assertEqual([[len(one) for one in line] for line in found],
                         [[0, 8, 0, 8], [8, 0, 8, 0], [0, 8, 0, 8], [8, 0, 8, 0]])

    def test_none_and_five(self):
        for count in (0, 5, 9):
            self.assertEqual(raised(TooLarge, matrix, [FIRST] * count).count, count)
        for count in (1, 4):
            found = matrix([FIRST] * count)
            self.assertEqual(found, [[Profile()] * count] * count)


if __name__ == "__main__":
    unittest.main()
