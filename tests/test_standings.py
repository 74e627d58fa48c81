"""[7.4], [7.7], [7.8]: standings, what follows from them, and who tells."""

import random
import unittest

from tests.drawn import drawn_house, drawn_row
from tests.plainstandings import plain_steps
from tests.samples import any_values, link, many, mark, raised
from waypairs.errors import BadStanding
from waypairs.kinds import House, Kind
from waypairs.manners import Manners
from waypairs.oneway import Lens
from waypairs.rows import Row
from waypairs.standings import fault, steps, told_by
from waypairs.travels import Travel

YES, NO = True, False


def lens_of(house, *fates, rules=None):
    """The lens of copying travels with these fates, and rules by travel."""
    return Lens(Row([Travel(house, fates=one, rules=None if rules is None else rules[at])
                     for at, one in enumerate(fates)]))


# A root with one link and one list to two leaves; the root is frozen or not.
def small(**parts):
    return House("Root", [Kind("Root", [link("one", "Leaf"), many("all", "Leaf")], **parts), Kind("Leaf", [mark("m")])])


SMALL = small()


class TestFromOne(unittest.TestCase):
    def test_leaf(self):
        self.assertEqual(steps(lens_of(SMALL, {}), ("one", "Leaf", (1,))), [])

    def test_two_kinds_of_fates(self):
        lens = lens_of(SMALL, {("Root", "one"): "goes", ("Root", "all"): "new"})
        found = steps(lens=lens, standing=("one", "Root", (1,)))
        self.assertEqual(sorted(found, key=repr), sorted([
            (("one", "Leaf", (1,)), 2),
            (("two", "Leaf", (1,), "Leaf", (1,), (NO,)), 2), (("torn", "Leaf", (1,), (1,), (NO,), (NO,)), 2),
            (("held", "Root", (1,), "Leaf", (1,), (YES,), YES), 1),
            (("held", "Root", (1,), "Leaf", (1,), (NO,), YES), 1),
        ], key=repr))

    def test_one_link_alone_does_not_part(self):
        house = House("Root", [Kind("Root", [link("one", "Leaf")]), Kind("Leaf", [mark("m")])])
        self.assertEqual(sorted(steps(lens_of(house, {}), ("one", "Root", (1,)))), [
            (("held", "Root", (1,), "Leaf", (1,), (YES,), YES), 1), (("one", "Leaf", (1,)), 2)])

    def test_places_of_one_list_part(self):
        house = House("Root", [Kind("Root", [many("all", "Leaf")]), Kind("Leaf", [mark("m")])])
        for fate, rule, expected in [
                ("goes", "itself", {("two", "Leaf", (1,), "Leaf", (1,), (YES,))}),
                ("goes", "never", {("two", "Leaf", (1,), "Leaf", (1,), (YES,)),
                                   ("torn", "Leaf", (1,), (1,), (NO,), (YES,))}),
                ("new", "itself", {("two", "Leaf", (1,), "Leaf", (1,), (NO,)),
                                   ("torn", "Leaf", (1,), (1,), (NO,), (NO,))}),
                ("stays", "itself", {("two", "Leaf", (), "Leaf", (), (NO,))})]:
            lens = lens_of(house, {("Root", "all"): fate}, rules=[{"Leaf": rule}])
            found = steps(lens, ("one", "Root", (1,)))
            self.assertEqual({one for one, cost in found if cost == 2 and one[0] != "one"}, expected)

    def test_a_thing_that_leads_to_itself(self):
        house = House("Root", [Kind("Root", [link("to", "Root")])])
        lens = lens_of(house, {("Root", "to"): "stays"}, {})
        self.assertEqual(sorted(steps(lens, ("one", "Root", (1, 2)))), [
            (("held", "Root", (1, 2), "Root", (2,), (NO, YES), YES), 1), (("one", "Root", (2,)), 2),
            (("torn", "Root", (2,), (1, 2), (NO, NO), (NO, YES)), 1)])
        lens = lens_of(house, {})
        self.assertEqual(sorted(steps(lens, ("one", "Root", (1,)))), [
            (("held", "Root", (1,), "Root", (1,), (YES,), YES), 1), (("one", "Root", (1,)), 2)])

    def test_frozen_kinds_make_no_ring(self):
        for parts, ring in [({"frozen": True}, NO), ({}, YES)]:
            found = steps(lens_of(small(**parts), {}), ("one", "Root", (1,)))
            self.assertIn((("held", "Root", (1,), "Leaf", (1,), (YES,), ring), 1), found)
        house = House("Root", [Kind("Root", [link("one", "Leaf")]), Kind("Leaf", [mark("m")], frozen=True)])
        found = steps(lens_of(house, {}), ("one", "Root", (1,)))
        self.assertIn((("held", "Root", (1,), "Leaf", (1,), (YES,), NO), 1), found)

    def test_broken_fields(self):
        lens = lens_of(SMALL, {("Root", "one"): "lost"}, {})
        self.assertEqual(len(steps(lens, ("one", "Root", (1,)))), 3)
        self.assertEqual({one for one, _ in steps(lens, ("one", "Root", (1,)))}, {
            ("one", "Leaf", (1,)), ("two", "Leaf", (1,), "Leaf", (1,), (YES, NO)),
            ("held", "Root", (1,), "Leaf", (1,), (YES, NO), YES)})
        self.assertEqual(steps(lens_of(SMALL, {("Root", "one"): "lost", ("Root", "all"): "lost"}),
                               ("one", "Root", (1,))), [])

    def test_admitted_kinds(self):
        house = House("Root", [Kind("Root", [link("base", "Base"), link("any")]),
                               Kind("Base", [mark("b")], heirs=True), Kind("Heir", [], base="Base"), Kind("Dot", [])])
        found = {one for one, cost in steps(lens_of(house, {}), ("one", "Root", (1,)))}
        self.assertEqual({one[1] for one in found if one[0] == "one"}, {"Root", "Base", "Heir", "Dot"})
        pairs = {(one[1], one[3]) for one in found if one[0] == "two"}
        every = ["Root", "Base", "Heir", "Dot"]
        self.assertEqual(pairs, {(one, other) for one in ("Base", "Heir") for other in every}
                         | {(other, one) for one in ("Base", "Heir") for other in every})


class TestFromTorn(unittest.TestCase):
    torn = ("torn", "Root", (1,), (), (NO,), (NO,))

    def test_movable_kinds_and_leaves(self):
        self.assertEqual(steps(lens_of(SMALL, {}), self.torn), [])
        self.assertEqual(steps(lens_of(SMALL, {}), ("torn", "Leaf", (1,), (1,), (NO,), (NO,))), [])
        house = House("Root", [Kind("Root", [link("one", "Leaf")]), Kind("Leaf", [mark("m")], frozen=True)])
        self.assertEqual(steps(lens_of(house, {}), ("torn", "Leaf", (1,), (), (NO,), (NO,))), [])

    def test_frozen_kinds(self):
        lens = lens_of(small(frozen=True), {("Root", "all"): "stays"})
        found = steps(lens, self.torn)
        self.assertEqual(sorted(found, key=repr), sorted([
            (("torn", "Root", (), (1,), (NO,), (NO,)), 0),
            # Both by the link.
            (("torn", "Leaf", (1,), (), (NO,), (NO,)), 2),
            # By the link and the list: to two things; to one, that is torn only where the first goes by the link.
            (("two", "Leaf", (1,), "Leaf", (), (NO,)), 2), (("two", "Leaf", (), "Leaf", (), (NO,)), 2),
            (("held", "Root", (), "Leaf", (1,), (NO,), NO), 1), (("held", "Root", (), "Leaf", (), (NO,), NO), 1),
        ], key=repr))

    def test_the_same_step_of_equal_words(self):
        frozen = small(frozen=True)
        lens = lens_of(frozen, {("Root", "one"): "goes", ("Root", "all"): "new"}, {})
        # At the second travel they were one: the link leads to one thing there, and so behind it.
        found = dict(steps(lens, ("torn", "Root", (1, 2), (1, 2), (NO, YES), (YES, YES))))
        self.assertNotIn(("torn", "Leaf", (1, 2), (1, 2), (YES, YES), (YES, YES)), found)
        self.assertNotIn(("torn", "Leaf", (1, 2), (1, 2), (NO, YES), (NO, YES)), found)
        found = dict(steps(lens, ("torn", "Root", (1, 2), (1, 2), (YES, NO), (YES, NO))))
        self.assertEqual(found["torn", "Leaf", (1, 2), (1, 2), (YES, NO), (YES, NO)], 2)
        self.assertEqual(found["torn", "Root", (1, 2), (1, 2), (YES, NO), (YES, NO)], 0)

    def test_a_step_that_is_broken_for_one_way(self):
        lens = lens_of(small(frozen=True), {("Root", "one"): "lost"})
        self.assertEqual({one[0] for one, _ in steps(lens, ("torn", "Root", (1,), (), (NO,), (NO,)))},
                         {"torn", "two", "held"})
        found = {one for one, cost in steps(lens, ("torn", "Root", (), (1,), (NO,), (NO,))) if one[0] == "two"}
        self.assertEqual(found, {("two", "Leaf", (), "Leaf", (1,), (NO,))})


class TestFromTwoAndHeld(unittest.TestCase):
    house = House("Root", [Kind("Root", [link("to", "Root"), link("leaf", "Leaf")]), Kind("Leaf", [mark("m")]),
                           Kind("Note", [mark("k")], key="k"), Kind("Ice", [link("leaf", "Leaf")], frozen=True),
                           Kind("Hall", [link("root", "Root"), link("ice", "Ice"), link("hall", "Hall")])])

    def test_two(self):
        lens = lens_of(self.house, {("Root", "leaf"): "lost"})
        self.assertEqual(set(steps(lens, ("two", "Root", (1,), "Leaf", (1,), (YES,)))), {
            (("two", "Root", (1,), "Leaf", (1,), (YES,)), 1)})
        lens = lens_of(self.house, {("Root", "leaf"): "new"})
        self.assertEqual(set(steps(lens, ("two", "Root", (1,), "Leaf", (1,), (YES,)))), {
            (("two", "Root", (1,), "Leaf", (1,), (YES,)), 1), (("two", "Leaf", (1,), "Leaf", (1,), (NO,)), 1),
            (("torn", "Leaf", (1,), (1,), (NO,), (NO,)), 1)})
        # The second way's word stands behind the first one's, whoever steps.
        self.assertEqual(set(steps(lens, ("two", "Leaf", (), "Root", (1,), (NO,)))), {
            (("two", "Leaf", (), "Root", (1,), (NO,)), 1), (("two", "Leaf", (), "Leaf", (1,), (NO,)), 1),
            (("torn", "Leaf", (), (1,), (NO,), (NO,)), 1)})

    def test_joined(self):
        for rule, memo, expected in [("marks", YES, True), ("marks", NO, False), ("itself", YES, False),
                                     ("never", YES, False)]:
            lens = lens_of(self.house, {}, rules=[{"Leaf": rule, "Note": "marks" if rule == "marks" else "itself"}])
            found = steps(lens, ("two", "Leaf", (1,), "Leaf", (1,), (memo,)))
            self.assertEqual(found, [(("joined", "Leaf", (1,), (1,)), 0)] if expected else [])
            # Neither with a key, nor of two kinds, nor in both travels of none.
            self.assertEqual(steps(lens, ("two", "Note", (1,), "Note", (1,), (memo,))), [])
            self.assertEqual(steps(lens, ("two", "Leaf", (1,), "Note", (1,), (memo,))), [])
            self.assertEqual(steps(lens, ("two", "Leaf", (), "Leaf", (), (memo,))), [])
            self.assertEqual(steps(lens, ("joined", "Leaf", (1,), (1,))), [])

    def test_joined_at_an_earlier_travel(self):
        two = ("two", "Leaf", (1, 2), "Leaf", (1, 2), (YES, YES))
        for rules, expected in [(("marks", "itself"), True), (("marks", "never"), False), (("itself", "marks"), True),
                                (("itself", "itself"), False)]:
            lens = lens_of(self.house, {}, {}, rules=[{"Leaf": rule} for rule in rules])
            self.assertEqual((("joined", "Leaf", (1, 2), (1, 2)), 0) in steps(lens, two), expected)

    def test_held(self):
        lens = lens_of(self.house, {})
        held = ("held", "Hall", (1,), "Hall", (1,), (YES,), YES)
        found = set(steps(lens, held))
        self.assertEqual(found, {
            (("held", "Hall", (1,), "Root", (1,), (YES,), YES), 1),
            (("held", "Hall", (1,), "Ice", (1,), (YES,), NO), 1),
            (("held", "Hall", (1,), "Hall", (1,), (YES,), YES), 1)})
        lens = lens_of(self.house, {("Hall", "hall"): "new"})
        found = set(steps(lens, held))
        self.assertIn((("torn", "Hall", (1,), (1,), (NO,), (NO,)), 1), found)
        self.assertIn((("held", "Hall", (1,), "Hall", (1,), (NO,), YES), 1), found)
        # Without the ring there is no meeting, and it never comes back.
        found = set(steps(lens, held[:-1] + (NO,)))
        self.assertEqual(found, {
            (("held", "Hall", (1,), "Root", (1,), (YES,), NO), 1), (("held", "Hall", (1,), "Ice", (1,), (YES,), NO), 1),
            (("held", "Hall", (1,), "Hall", (1,), (NO,), NO), 1)})

    def test_the_waiting_way_stays(self):
        lens = lens_of(self.house, {("Root", "to"): "stays"}, {})
        found = set(steps(lens, ("held", "Root", (1, 2), "Root", (2,), (NO, YES), YES)))
        self.assertEqual(found, {
            (("held", "Root", (1, 2), "Root", (2,), (NO, YES), YES), 1),
            (("held", "Root", (1, 2), "Leaf", (2,), (NO, YES), YES), 1),
            (("torn", "Root", (2,), (1, 2), (NO, NO), (NO, YES)), 1)})


class TestTold(unittest.TestCase):
    house = House("Root", [
        Kind("Root", [mark("m"), link("to", "Root"), link("tag", "Tag"), link("sign", "Sign"), link("ice", "Ice")]),
        Kind("Tag", [mark("code"), mark("tone")], key="code", registered=True),
        Kind("Sign", [mark("code")], key="code", registered=True),
        Kind("Note", [mark("code")], key="code"),
        Kind("Ice", [mark("m"), link("leaf", "Leaf")], frozen=True),
        Kind("Leaf", [mark("m")]), Kind("Dot", []), Kind("Cold", [mark("m")], frozen=True)])
    ask_old = [Manners("ask", "old")]
    shared = [Manners("ask", "old"), Manners("old", "set")]

    def check(self, lens, standing, name, told):
        self.assertEqual(fault(lens=lens, standing=standing), name)
        found = told_by(lens=lens, standing=standing)
        self.assertEqual(found, told)
        self.assertIs(type(found), list)
        self.assertTrue(all(isinstance(one, Manners) for one in found))

    def test_one(self):
        lens = lens_of(self.house, {}, {})
        for kind, made, name, told in [
                ("Root", (1,), None, []), ("Root", (1, 2), None, []), ("Root", (), "shared", self.shared),
                ("Tag", (), None, []), ("Tag", (2,), "copied", self.shared), ("Sign", (1, 2), "copied", self.ask_old),
                ("Sign", (), None, []), ("Note", (), "shared", self.ask_old), ("Note", (1,), None, []),
                ("Ice", (), "shared", self.ask_old), ("Leaf", (), "shared", self.shared),
                ("Dot", (), "shared", self.ask_old), ("Cold", (), "shared", self.ask_old)]:
            self.check(lens, ("one", kind, made), name, told)

    def test_lost(self):
        lens = lens_of(self.house, {("Root", "m"): "lost"}, {("Tag", "tone"): "lost", ("Root", "ice"): "lost"})
        for kind, made, name, told in [
                ("Root", (1,), "lost", [Manners()]), ("Root", (2,), "lost", [Manners()]),
                ("Root", (), "shared", self.shared),
                ("Tag", (2,), "lost", [Manners()]), ("Tag", (1,), "copied", self.shared), ("Tag", (), None, [])]:
            self.check(lens, ("one", kind, made), name, told)
        reader = self.house.with_kinds([Kind("Root", [link("to", "Root")])] + [self.house.kind_named(name)
                                                                               for name in self.house.names[1:]])
        lens = Lens(Row([Travel(self.house, reader=reader), Travel(reader, reader=self.house)]))
        self.check(lens, ("one", "Root", ()), "lost", [Manners()])
        self.check(lens, ("two", "Root", (), "Root", (), (YES, YES)), None, [])

    def test_merged(self):
        lens = lens_of(self.house, {}, {}, rules=[{"Root": "marks", "Leaf": "marks"}, {}])
        for word in ("two", "held"):
            tail = () if word == "two" else (NO,)
            for kind, other, memos, name in [
                    ("Root", "Root", (YES, NO), "merged"), ("Root", "Root", (NO, YES), None),
                    ("Root", "Ice", (YES, YES), None), ("Leaf", "Leaf", (YES, YES), None),
                    ("Ice", "Ice", (YES, YES), None)]:
                standing = (word, kind, (1, 2), other, (1,), memos, *tail)
                self.check(lens, standing, name, [Manners()] if name else [])
        lens = lens_of(self.house, {("Root", "m"): "lost"}, rules=[{"Root": "marks"}])
        # What is broken for it does not matter for two ways.
        self.check(lens, ("two", "Root", (1,), "Root", (1,), (YES,)), "merged", [Manners()])
        self.check(lens, ("two", "Root", (1,), "Root", (1,), (NO,)), None, [])

    def test_torn_and_joined(self):
        lens = lens_of(self.house, {("Root", "m"): "lost"})
        both = [Manners("ask"), Manners("set")]
        for kind, told in [("Root", both), ("Ice", [Manners("ask")]), ("Note", [Manners("ask")]), ("Tag", both),
                           ("Leaf", both), ("Dot", [Manners("ask")]), ("Cold", [Manners("ask")])]:
            self.check(lens, ("torn", kind, (1,), (1,), (NO,), (NO,)), "torn", told)
        for kind, told in [("Leaf", both), ("Dot", [Manners("ask")]), ("Cold", [Manners("ask")])]:
            self.check(lens, ("joined", kind, (1,), ()), "joined", told)


class TestValues(unittest.TestCase):
    house = TestTold.house
    right = [("one", "Root", (1, 2)), ("torn", "Root", (1,), (), (NO, YES), (YES, NO)),
             ("two", "Root", (1,), "Leaf", (2,), (YES, NO)), ("held", "Root", (), "Ice", (1, 2), (NO, NO), YES),
             ("joined", "Leaf", (1,), (1, 2))]

    def refused(self, lens, value):
        for call in (steps, told_by, fault):
            raised(BadStanding, call, lens, value)

    def test_any_values(self):
        lens = lens_of(self.house, {}, {})
        for standing in self.right:
            steps(lens, standing)
        for value in any_values() + [("one",), ("One", "Root", (1,)), ("none", "Root"), ("start",), ("torn", "Root"),
                                     (("one", "Root", (1,)), 0)]:
            self.refused(lens, value)

    def test_each_part(self):
        lens = lens_of(self.house, {}, {})
        for standing in self.right:
            self.refused(lens, list(standing))
            self.refused(lens, standing[:-1])
            self.refused(lens, (*standing, YES))
            self.refused(lens, standing[1:])
            for at, part in enumerate(standing):
                for value in any_values() + [0, 1, "No", "any", (0,), (3,), (1, 1), (2, 1), (True,), [1], (1, 3), ((),),
                                             (YES,), (YES, NO, YES), (1, 0), [YES, NO], (None, None), ((YES, NO),)]:
                    wrong = (*standing[:at], value, *standing[at + 1:])
                    if isinstance(part, bool) and isinstance(value, bool) or isinstance(part, tuple) and value == ():
                        if not isinstance(part, tuple) or not part or not isinstance(part[0], bool):
                            continue
                    self.refused(lens, wrong)

    def test_joined_kinds(self):
        lens = lens_of(self.house, {}, {})
        for kind in ("Root", "Tag", "Sign", "Note", "Ice"):
            self.refused(lens, ("joined", kind, (1,), (1,)))
        for kind in ("Leaf", "Dot", "Cold"):
            self.assertEqual(steps(lens, ("joined", kind, (1,), (1,))), [])

    def test_neither_reached_nor_fitting_is_asked(self):
        lens = lens_of(self.house, {})
        self.assertEqual(fault(lens, ("torn", "Note", (), (), (YES,), (YES,))), "torn")
        self.assertEqual(fault(lens, ("one", "Cold", ())), "shared")
        self.assertEqual(steps(lens, ("held", "Note", (), "Dot", (1,), (YES,), YES)), [])


class TestDrawn(unittest.TestCase):
    def test_as_the_document_tells_it(self):
        chance = random.Random(81)
        found = {}
        for _ in range(150):
            lens = Lens(drawn_row(chance, drawn_house(chance), chance.randrange(1, 4), saving=0.3))
            for _ in range(25):
                standing = drawn_standing(chance, lens)
                following = steps(lens, standing)
                self.assertEqual(len(set(following)), len(following))
                self.assertEqual(set(following), plain_steps(lens, standing))
                for one, _ in following:
                    found[standing[0], one[0]] = True
                    fault(lens, one)
        self.assertEqual(set(found), {
            ("one", "one"), ("one", "two"), ("one", "torn"), ("one", "held"), ("torn", "torn"), ("torn", "two"),
            ("torn", "held"), ("two", "two"), ("two", "torn"), ("two", "joined"), ("held", "held"), ("held", "torn")})


def drawn_standing(chance, lens):
    """Any standing for a row, reached or not."""
    house = lens.row.home
    word = chance.choice(["one", "torn", "torn", "torn", "two", "two", "held"])
    kinds = [name for name in house.names if not house.is_leaf(name)]
    cold = [name for name in kinds if house.is_frozen(name)]

    def made():
        return tuple(k for k in range(1, lens.size + 1) if chance.random() < 0.7)

    def truths():
        return tuple(chance.random() < 0.6 for _ in range(lens.size))
    kind = chance.choice(cold if word == "torn" and cold else kinds)
    other = chance.choice([kind, *house.names])
    if word == "one":
        return (word, kind, made())
    if word == "torn":
        return (word, kind, made(), made(), truths(), truths())
    if word == "two":
        same = chance.choice(house.names)
        return (word, *chance.choice([(kind, made(), other, made()), (same, made(), same, made())]), truths())
    return (word, kind, made(), other, made(), truths(), chance.random() < 0.7)


if __name__ == "__main__":
    unittest.main()
