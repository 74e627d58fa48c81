"""[10.9], [10.10]: changes of rows, lots, mends and spoilers."""

import itertools
import random
import unittest
from unittest import mock

from tests.drawn import drawn_house, drawn_row
from tests.rowsamples import copy, town_row
from tests.samples import any_values, link, mark, raised
from waypairs.errors import BadChange, TooLarge
from waypairs.kinds import House, Kind
from waypairs.manners import Manners
from waypairs.manysets import Profile
from waypairs.mends import Change, least_mends, lot_profiles, lots, mended, spoilers
from waypairs.rows import Row
from waypairs.travels import RULES, SLOT_FATES, Travel
from waypairs.verdicts import judge

NONE, ASK, OLD, SET, ASK_OLD, ASK_SET, OLD_SET, ALL = Manners.every()
# Two travels: the first one loses a mark of leaves, the second one copies nodes twice and tags.
ROW = Row([copy({("Leaf", "n"): "lost"}), copy({("Root", "tag"): "goes", ("Root", "a"): "new"})])
KEEP = Change(1, "Leaf", "n", "goes")
NAME = Change(2, "Root", "tag", "named")
JOIN = Change(2, "Root", "a", "goes")
NEVER = Change(2, "Leaf", None, "never")
MARKS = Change(1, "Node", None, "marks")
LOSE = Change(2, "Leaf", "m", "lost")


def plain_lots(pool):
    """All lots of a pool, by their numbers of places, then as tuples."""
    found = []
    for count in range(len(pool) + 1):
        for lot in itertools.combinations(range(len(pool)), count):
            entries = [(pool[at].travel, pool[at].kind, pool[at].field) for at in lot]
            if len(set(entries)) == len(entries):
                found.append(lot)
    return found


class TestChange(unittest.TestCase):
    def test_nothing_is_checked(self):
        for value in any_values():
            change = Change(travel=value, kind=value, field=value, value=value)
            self.assertEqual([change.travel, change.kind, change.field, change.value], [value] * 4)

    def test_arguments_are_copied(self):
        value = [["a"], ({"b": ["c"]},), 1]
        changes = [Change(value, 1, None, 0), Change(0, value, None, 0), Change(0, 1, value, 0), Change(0, 1, None, value)]
        value[0].append("x")
        value[1][0]["b"].append("y")
        value.append("z")
        for change, name in zip(changes, ("travel", "kind", "field", "value")):
            self.assertEqual(getattr(change, name), [["a"], ({"b": ["c"]},), 1])

    def test_equality(self):
        self.assertEqual(KEEP, Change(1, "Leaf", "n", "goes"))
        for other in (Change(2, "Leaf", "n", "goes"), Change(1, "Node", "n", "goes"), Change(1, "Leaf", None, "goes"),
                      Change(1, "Leaf", "n", "lost"), None, (1, "Leaf", "n", "goes")):
            self.assertFalse(KEEP == other)


class TestMended(unittest.TestCase):
    def test_fates_and_rules(self):
        new = mended(row=ROW, changes=[KEEP, NEVER, JOIN, MARKS])
        self.assertEqual(new, Row([copy(rules={"Node": "marks"}),
                                   copy({("Root", "tag"): "goes"}, {"Leaf": "never"})]))
        self.assertEqual(mended(ROW, []), ROW)
        self.assertEqual(mended(ROW, [Change(1, "Leaf", "n", "lost")]), ROW)
        # The order means nothing.
        for changes in itertools.permutations([KEEP, NEVER, JOIN, MARKS]):
            self.assertEqual(mended(ROW, list(changes)), new)

    def test_heirs_and_saving_travels(self):
        home = House("Root", [Kind("Root", [link("to", "Base")]), Kind("Base", [mark("m")], heirs=True),
                              Kind("Heir", [mark("n")], base="Base")])
        reader = home.with_kinds([home.kind_named("Root"), Kind("Base", [mark("w", was=["m"])], heirs=True),
                                  home.kind_named("Heir")])
        row = Row([Travel(home, reader=reader), Travel(reader, reader=home)])
        new = mended(row, [Change(1, "Base", None, "never"), Change(2, "Base", "w", "lost")])
        self.assertEqual([one.rule("Heir") for one in new], ["itself", "itself"])
        self.assertEqual([new[1].rule("Base"), new[2].fate("Heir", "w"), new[1].fate("Heir", "m")],
                         ["never", "lost", "goes"])
        self.assertTrue(all(one.is_saving for one in new))
        # A field of the base is no own field of the heir.
        self.assertEqual(raised(BadChange, mended, row, [Change(1, "Heir", "m", "lost")]).at, 0)
        # The fields are those that the house has where the travel begins.
        for change in (Change(1, "Base", "w", "lost"), Change(2, "Base", "m", "lost"), Change(1, "Root", "to", "stays")):
            self.assertEqual(raised(BadChange, mended, row, [change]).at, 0)

    def test_wrong_changes(self):
        for value in any_values() + [0, 3, 10 ** 30, "1"]:
            if value not in (1, 2) or isinstance(value, bool):
                self.assertEqual(raised(BadChange, mended, ROW, [KEEP, Change(value, "Leaf", "m", "goes")]).at, 1)
        self.assertEqual(raised(BadChange, mended, ROW, [Change(True, "Leaf", "m", "goes")]).at, 0)
        for value in any_values() + ["any", "m", "leaf", 1]:
            self.assertEqual(raised(BadChange, mended, ROW, [KEEP, Change(1, value, "m", "goes")]).at, 1)
            self.assertEqual(raised(BadChange, mended, ROW, [KEEP, Change(1, value, None, "itself")]).at, 1)
            if value not in ("m", None):
                self.assertEqual(raised(BadChange, mended, ROW, [KEEP, Change(1, "Leaf", value, "goes")]).at, 1)
        for value in any_values() + ["new", "stays", "named", "itself", "Goes"]:
            self.assertEqual(raised(BadChange, mended, ROW, [NAME, JOIN, Change(1, "Leaf", "m", value)]).at, 2)
        for value in any_values() + ["goes", "Never", "mark"]:
            self.assertEqual(raised(BadChange, mended, ROW, [Change(1, "Leaf", None, value), None]).at, 0)
        for change in (Change(1, "Tag", "code", "lost"), Change(1, "Root", "a", "named"), Change(1, "Dot", None, "marks")):
            self.assertEqual(raised(BadChange, mended, ROW, [change]).at, 0)

    def test_the_same_entry_twice(self):
        self.assertEqual(raised(BadChange, mended, ROW, [KEEP, NAME, Change(1, "Leaf", "n", "lost")]).at, 2)
        self.assertEqual(raised(BadChange, mended, ROW, [NEVER, NEVER]).at, 1)
        self.assertEqual(raised(BadChange, mended, ROW, [KEEP, KEEP, Change(9, "Leaf", "n", "goes")]).at, 1)
        # Neither another travel, nor the rule beside a field.
        mended(ROW, [KEEP, Change(2, "Leaf", "n", "goes"), Change(1, "Leaf", None, "itself"),
                     Change(1, "Leaf", "m", "goes")])


class TestLots(unittest.TestCase):
    def test_all_lots(self):
        self.assertEqual(lots(row=ROW, pool=[]), [()])
        self.assertEqual(lots(ROW, [KEEP, NAME, JOIN]), [(), (0,), (1,), (2,), (0, 1), (0, 2), (1, 2), (0, 1, 2)])
        self.assertEqual(lots(ROW, [KEEP, NAME, KEEP]), [(), (0,), (1,), (2,), (0, 1), (1, 2)])
        pool = [KEEP, NAME, LOSE, Change(1, "Leaf", "n", "lost"), NEVER, JOIN]
        self.assertEqual(lots(ROW, pool), plain_lots(pool))
        self.assertEqual(len(lots(ROW, [KEEP, NAME, JOIN, NEVER, MARKS, LOSE])), 64)

    def test_errors(self):
        pool = [KEEP, NAME, JOIN, NEVER, MARKS, LOSE]
        wrong = Change(3, "Leaf", "n", "goes")
        for call, args in [(lots, []), (lot_profiles, []), (least_mends, [NONE]), (spoilers, [NONE])]:
            self.assertEqual(raised(TooLarge, call, ROW, [*pool, KEEP], *args).count, 7)
            self.assertEqual(raised(TooLarge, call, ROW, [wrong] * 9, *args).count, 9)
            for at in range(6):
                given = [*pool[:at], wrong, *pool[at + 1:5], wrong]
                self.assertEqual(raised(BadChange, call, ROW, given[:6], *args).at, at)
        # Changes of one entry are no fault of a pool.
        lots(ROW, [KEEP] * 6)

    def test_what_judge_raises_goes_out(self):
        with mock.patch("waypairs.closure.MOST_STANDINGS", 1):
            for call, args in [(lot_profiles, []), (least_mends, [NONE]), (spoilers, [NONE])]:
                raised(TooLarge, call, ROW, [KEEP], *args)
            self.assertEqual(lots(ROW, [KEEP]), [(), (0,)])


class TestMends(unittest.TestCase):
    def check(self, row, pool):
        """Checks profiles, mends and spoilers against the verdicts on the mended rows."""
        profiles = lot_profiles(row=row, pool=pool)
        self.assertEqual([lot for lot, _ in profiles], plain_lots(pool))
        quiet = {}
        for lot, profile in profiles:
            verdict = judge(mended(row, [pool[at] for at in lot]))
            self.assertEqual(profile, Profile.of(verdict))
            for manners in Manners.every():
                quiet[lot, manners.names] = verdict.quiet(manners)
        for manners in Manners.every():
            names = manners.names
            expected = [lot for lot in plain_lots(pool) if quiet[lot, names] and not any(
                quiet[part, names] for count in range(len(lot)) for part in itertools.combinations(lot, count))]
            self.assertEqual(least_mends(row=row, pool=pool, manners=manners), expected)
            expected = [(lot, at) for lot in plain_lots(pool) for at in range(len(pool)) if at not in lot
                        and quiet[lot, names] and not quiet.get((tuple(sorted((*lot, at))), names), True)]
            self.assertEqual(spoilers(row=row, pool=pool, manners=manners), expected)
        return dict(profiles)

    def test_by_hand(self):
        found = self.check(ROW, [KEEP, NAME, JOIN])
        self.assertEqual({lot: [one.names for one in profile] for lot, profile in found.items()}, {
            (): [()], (0,): [("ask",), ("set",)], (1,): [()], (2,): [()], (0, 1): [("ask",), ("set",)],
            (0, 2): [("ask", "old"), ("old", "set")], (1, 2): [()], (0, 1, 2): []})
        self.assertEqual([least_mends(ROW, [KEEP, NAME, JOIN], one) for one in (NONE, ASK, ALL)],
                         [[(0,)], [(0, 2)], [(0, 1, 2)]])

    def test_spoilers(self):
        pool = [LOSE, KEEP, NEVER]
        self.check(ROW, pool)
        self.assertEqual(spoilers(ROW, pool, NONE), [((1,), 0), ((1, 2), 0)])
        self.assertEqual(spoilers(town_row(), [Change(1, "Node", None, "never"), Change(1, "Node", None, "marks")], ALL),
                         [((), 0), ((), 1)])

    def test_a_change_that_heals_another_one(self):
        # Leaves that are known by marks are joined, unless each is copied with a new memo.
        home = House("Root", [Kind("Root", [link("a", "Leaf"), link("b", "Leaf")]), Kind("Leaf", [mark("m")])])
        row = Row([Travel(home, rules={"Leaf": "marks"})])
        pool = [Change(1, "Leaf", None, "itself"), Change(1, "Root", "a", "stays"), Change(1, "Leaf", None, "never"),
                Change(1, "Root", "b", "stays")]
        self.check(row, pool)
        self.assertEqual(least_mends(row, pool, ASK), [(0,), (1, 3)])
        self.assertEqual(least_mends(row, pool, ALL), [(0,)])
        self.assertEqual(least_mends(row, pool, OLD), [()])

    def test_drawn(self):
        chance = random.Random(1010)
        mends = spoiled = 0
        while mends < 25:
            row = drawn_row(chance, drawn_house(chance), chance.randrange(1, 4), saving=0.2,
                            fates=chance.choice([("goes",), ("goes", "new", "stays", "lost", "named")]))
            pool = [self.drawn_change(chance, row) for _ in range(chance.randrange(1, 5))]
            try:
                lots(row, pool)
                self.check(row, pool)
            except (BadChange, TooLarge):
                continue
            mends += sum(len(least_mends(row, pool, manners)) for manners in (NONE, ASK))
            spoiled += sum(len(spoilers(row, pool, manners)) for manners in (NONE, ALL))
        self.assertGreater(spoiled, 5)

    def drawn_change(self, chance, row):
        travel = chance.randrange(1, row.size + 1)
        kind, field, _ = chance.choice(row[travel].table())
        return Change(travel, kind, field, chance.choice(RULES if field is None else SLOT_FATES))


if __name__ == "__main__":
    unittest.main()
