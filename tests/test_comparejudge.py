"""[9.6] to [9.12]: the judge of comparers."""

import itertools
import random
import unittest

from tests.drawn import drawn_house
from tests.plaincompare import WITHOUT_OLD, PlainCauses, drawn_comparer, drawn_pair
from tests.samples import any_values, chain, link, many, mark, node_house, raised, town_house
from waypairs.comparejudge import (Cause, ComparerVerdict, fewest_guards, fitting, judge_comparer, met_kinds, ranks,
                                   right_comparer, wrong_result)
from waypairs.comparers import Comparer
from waypairs.comparing import compare
from waypairs.errors import BadHouse, BadManner, TooLarge, UnknownKind
from waypairs.kinds import House, Kind
from waypairs.manners import Manners
from waypairs.matching import alike
from waypairs.rules import is_home
from waypairs.webs import Web

NONE, ASK, SET, ASK_SET = WITHOUT_OLD
NODE = node_house()
GUARDS = Comparer.GUARDS


def others(house, kind, guard):
    """The comparer with this guard for a kind, and way pair for all others."""
    return Comparer(house, guards={name: guard if name == kind else "way pair" for name in house.names})


class Judged(unittest.TestCase):
    def check(self, comparer, manners):
        """Checks all causes of a comparer, with their pairs; the causes as tuples (result, kind, why, field, size)."""
        verdict = judge_comparer(comparer=comparer, manners=manners)
        self.assertIsInstance(verdict, ComparerVerdict)
        self.assertEqual((verdict.comparer, verdict.manners), (comparer, manners))
        causes = verdict.causes()
        self.assertEqual((len(verdict), verdict.is_right), (len(causes), causes == []))
        found = []
        for cause in causes:
            self.assertIsInstance(cause, Cause)
            found.append((cause.result, cause.kind, cause.why, cause.field, cause.size))
            pair = cause.pair()
            self.assertIs(type(pair), tuple)
            first, second = pair
            self.assertTrue(is_home(first) and is_home(second))
            self.assertEqual(len(first) + len(second), cause.size)
            self.assertEqual(compare(comparer, first, second), cause.result)
            self.assertEqual(wrong_result(comparer, manners, first, second), cause.result)
        self.assertEqual(found, list(PlainCauses(comparer, manners).sizes()))
        return found

    def causes(self, house, kind, guard, manners):
        """The causes (why, size) at a kind with this guard, where all others have way pair."""
        return [(why, size) for _, one, why, _, size in self.check(others(house, kind, guard), manners) if one == kind]


class TestCauses(Judged):
    def test_fields_that_are_out(self):
        house = House("Root", [Kind("Root", [link("a", "Part")]), Kind("Part", [link("leaf", "Leaf"), many("x", "any")]),
                               Kind("Leaf", [mark("m"), mark("n")]), Kind("Far", [mark("m")])])
        out = [("Leaf", "n"), ("Leaf", "m"), ("Part", "x"), ("Far", "m")]
        for manners in WITHOUT_OLD:
            found = self.check(Comparer(house, out=out), manners)
            self.assertEqual([one for one in found if one[2] == "out"], [
                ("equal", "Part", "out", "x", 5), ("equal", "Leaf", "out", "m", 6), ("equal", "Leaf", "out", "n", 6)])
        # Behind a field that is out nothing is met.
        self.assertEqual(self.check(Comparer(house, out=[("Root", "a"), *out]), NONE), [("equal", "Root", "out", "a", 3)])
        base = House("Root", [Kind("Root", [link("a", "Base")]), Kind("Base", [mark("m")], heirs=True),
                              Kind("Heir", [link("to", "Heir")], base="Base")])
        found = self.check(Comparer(base, out=[("Base", "m"), ("Heir", "to")]), NONE)
        self.assertEqual(found, [("equal", "Base", "out", "m", 4), ("equal", "Heir", "out", "m", 4),
                                 ("equal", "Heir", "out", "to", 5)])

    def test_a_key_that_is_out(self):
        house = House("Root", [Kind("Root", [link("a", "Note"), link("b", "Note")]), Kind("Note", [mark("k")], key="k")])
        for manners in WITHOUT_OLD:
            self.assertEqual(self.check(Comparer(house, out=[("Note", "k")]), manners),
                             [("equal", "Note", "out", "k", 4)])

    def fork(self, *fields, frozen=False, key=None):
        """A house with a fork of two steps to a kind with these fields."""
        return House("Root", [Kind("Root", [link("a", "Part"), link("b", "Part")]),
                              Kind("Part", list(fields), frozen=frozen, key=key), Kind("Dot", [])])

    def test_known_by_a_fork(self):
        for guard in GUARDS:
            for house, more in [(self.fork(mark("m")), 0), (self.fork(link("to", "Dot")), 1),
                                (self.fork(mark("m"), link("to", "Dot")), 0), (self.fork(mark("k"), key="k"), 0)]:
                found = self.causes(house, "Part", guard, NONE)
                if guard in ("lasting left", "lasting right"):
                    self.assertEqual(found, [("known", 5 + more)])
                else:
                    self.assertNotIn("known", [why for why, _ in found])
            # Things without fields are told by nobody who does not ask.
            dot = House("Root", [Kind("Root", [many("all", "Dot")]), Kind("Dot", [])])
            for manners in WITHOUT_OLD:
                known = "known" in [why for why, _ in self.causes(dot, "Dot", guard, manners)]
                self.assertEqual(known, guard in ("lasting left", "lasting right") and "ask" in manners)

    def test_known_by_a_ring(self):
        for guard in GUARDS:
            house = House("Root", [Kind("Root", [link("a", "Part")]), Kind("Part", [link("b", "Other")]),
                                   Kind("Other", [link("c", "Part")])])
            found = dict(self.causes(house, "Part", guard, NONE))
            self.assertEqual(found.get("known"), 7 if guard.endswith(("left", "right")) else None)
            self.assertEqual(dict(self.causes(house, "Other", guard, NONE)).get("known"),
                             9 if guard.endswith(("left", "right")) else None)
            self.assertEqual(self.causes(house, "Root", guard, NONE), [])

    def test_torn_by_a_fork(self):
        for guard in GUARDS:
            torn = None if guard == "lasting match" else 5
            for house, by_set in [(self.fork(mark("m")), torn), (self.fork(mark("m"), frozen=True), None),
                                  (self.fork(), None), (self.fork(mark("k"), key="k"), None),
                                  (self.fork(link("to", "Dot")), torn and 7), (self.fork(many("to", "Dot")), torn and 7),
                                  (self.fork(link("to", "Part")), torn and 7)]:
                for manners in WITHOUT_OLD:
                    found = dict(self.causes(house, "Part", guard, manners))
                    expected = None
                    if house.key_of("Part") is None and "ask" in manners:
                        expected = torn
                    elif "set" in manners:
                        expected = by_set
                    self.assertEqual(found.get("torn"), expected)

    def test_torn_by_a_ring(self):
        house = House("Root", [Kind("Root", [link("a", "Part")]), Kind("Part", [link("b", "Other")]),
                               Kind("Other", [link("c", "Part"), link("leaf", "Leaf")]), Kind("Leaf", [mark("m")])])
        for guard in GUARDS:
            for manners in (ASK, SET, ASK_SET):
                found = dict(self.causes(house, "Part", guard, manners))
                self.assertEqual(found.get("torn"), None if guard.endswith("match") else 7)
                # The guard of another kind on the ring is enough.
                comparer = Comparer(house, guards={"Other": guard})
                found = [size for _, kind, why, _, size in self.check(comparer, manners) if (kind, why) == ("Part", "torn")]
                self.assertEqual(found, [] if guard == "none" else [7])
            self.assertNotIn("torn", dict(self.causes(house, "Part", guard, NONE)))

    def test_torn_by_a_ring_that_comes_by_a_kind_twice(self):
        house = House("Part", [Kind("Part", [link("b", "Other")]), Kind("Other", [link("c", "any")]),
                               Kind("Third", [link("d", "Other")])])
        comparer = Comparer(house, guards={"Third": "way match", "Other": "way match"})
        # A fork by one list or two slots is nowhere; the ring of Part with a guard is short.
        self.assertEqual([one for one in self.check(comparer, ASK) if one[1:3] == ("Part", "torn")],
                         [("equal", "Part", "torn", None, 5)])
        comparer = Comparer(house, guards={"Third": "way match"})
        found = [one for one in self.check(comparer, ASK) if one[1:3] == ("Part", "torn")]
        # Part, Other, Third, Other and back to Part.
        self.assertEqual(found, [("equal", "Part", "torn", None, 9)])

    def test_match(self):
        for guard in GUARDS:
            asks = guard.endswith(("map", "match"))
            for manners in WITHOUT_OLD:
                for house in (self.fork(mark("m"), frozen=True), self.fork(), self.fork(mark("m"))):
                    apart = "ask" in manners or ("set" in manners and house.is_movable("Part"))
                    found = dict(self.causes(house, "Part", guard, manners))
                    self.assertEqual(found.get("match"), 5 if guard.startswith("lasting") and asks and not apart else None)
                found = dict(self.causes(self.fork(mark("k"), key="k"), "Part", guard, manners))
                self.assertNotIn("match", found)
            found = dict(self.causes(NODE, "Node", guard, NONE))
            expected = 2 * 2 + 1 if guard.startswith("lasting") else 2 * 1 + 1
            self.assertEqual(found.get("match"), expected if asks else None)

    def test_match_by_a_bare_fork(self):
        for guard in GUARDS:
            # No link of a part can hold a root or a part: parts that hold nothing cannot be changed.
            for house, bare in [(self.fork(link("to", "Dot")), True), (self.fork(many("to", "Part")), True),
                                (self.fork(link("to", "Part")), False), (self.fork(link("to", "any")), False),
                                (self.fork(link("to", "Root")), False), (self.fork(mark("m"), link("to", "Dot")), False),
                                (self.fork(many("to", "any"), many("on", "Root")), True)]:
                for manners in WITHOUT_OLD:
                    found = dict(self.causes(house, "Part", guard, manners))
                    expected = manners == SET and bare and guard in ("lasting map", "lasting match")
                    if manners == NONE and guard in ("lasting map", "lasting match"):
                        expected = True
                    if manners == NONE and guard in ("way map", "way match") and "Part" in house.leads_far("Part"):
                        self.assertIn("match", found)
                    else:
                        self.assertEqual("match" in found, expected)

    def test_a_bare_fork_that_is_longer(self):
        house = House("Root", [
            Kind("Root", [link("a", "Wing"), link("b", "Hall")]),
            Kind("Wing", [link("a", "Part"), link("b", "Part")]), Kind("Hall", [link("a", "Room")]),
            Kind("Room", [many("all", "Part")]), Kind("Part", [link("to", "Wing")])])
        self.assertEqual(dict(self.causes(house, "Part", "lasting match", SET)), {"match": 2 * 4 + 1})
        self.assertEqual(dict(self.causes(house, "Part", "way pair", SET))["torn"], 2 * 3 + 3)

    def test_ring(self):
        house = House("Root", [Kind("Root", [link("a", "Part")]), Kind("Part", [link("b", "Other")]),
                               Kind("Other", [link("c", "Part"), link("d", "Other")])])
        self.assertEqual(self.check(Comparer(house), NONE), [("endless", "Part", "ring", None, 6),
                                                             ("endless", "Other", "ring", None, 6)])
        self.assertEqual(self.check(Comparer(house, guards={"Other": "way pair"}), NONE), [])
        self.assertEqual(self.check(Comparer(house, guards={"Part": "way pair"}), NONE),
                         [("endless", "Other", "ring", None, 6)])
        self.assertEqual(self.check(Comparer(house, out=[("Other", "c"), ("Other", "d")]), NONE),
                         [("equal", "Other", "out", "c", 7), ("equal", "Other", "out", "d", 7)])

    def test_forks(self):
        def house(*fields):
            return House("Root", [Kind("Root", list(fields)), Kind("Wing", [link("leaf", "Leaf")]),
                                  Kind("Leaf", [mark("m")])])
        for fields, size in [([link("a", "Leaf"), link("b", "Leaf")], 5), ([many("all", "Leaf")], 5),
                             ([link("a", "Leaf"), link("b", "Wing")], 7), ([link("a", "any")], None),
                             ([many("all", "any")], 5), ([many("all", "Wing")], 9), ([link("a", "Leaf")], None),
                             ([link("a", "Leaf"), link("b", "Wing"), many("all", "Leaf")], 5)]:
            found = dict(self.causes(house(*fields), "Leaf", "way pair", ASK))
            if fields[0].target != "any":
                self.assertEqual(found.get("torn"), size)

    def test_the_order(self):
        house = House("Root", [
            Kind("Far", [mark("m"), many("all", "Far"), link("root", "Root")]),
            Kind("Root", [many("x", "any"), link("y", "Far"), mark("m")])])
        comparer = Comparer(house, out=[("Root", "m"), ("Far", "m")], guards={"Far": "lasting left"})
        self.assertEqual([one[1:4] for one in self.check(comparer, ASK)], [
            ("Far", "out", "m"), ("Far", "known", None), ("Far", "torn", None), ("Root", "out", "m"),
            ("Root", "torn", None), ("Root", "ring", None)])
        comparer = Comparer(house, guards={"Far": "lasting map", "Root": "lasting left"})
        self.assertEqual([one[1:3] for one in self.check(comparer, NONE)], [("Far", "match"), ("Root", "known")])

    def test_drawn(self):
        chance = random.Random(99)
        found = {}
        for _ in range(120):
            house = drawn_house(chance)
            comparer = drawn_comparer(chance, house, chance.choice([0, 0.1]))
            for manners in WITHOUT_OLD:
                for _, _, why, _, _ in self.check(comparer, manners):
                    found[why] = found.get(why, 0) + 1
        self.assertEqual(set(found), {"out", "known", "torn", "match", "ring"})

    def test_lists_are_new(self):
        verdict = judge_comparer(Comparer(NODE), NONE)
        verdict.causes().clear()
        self.assertEqual((len(verdict), len(verdict.causes())), (1, 1))

    def test_old(self):
        for manners in Manners.every():
            if "old" in manners:
                self.assertEqual(raised(BadManner, judge_comparer, Comparer(NODE), manners).name, "old")
                self.assertEqual(raised(BadManner, fewest_guards, NODE, manners).name, "old")
                self.assertEqual(raised(BadManner, right_comparer, NODE, manners).name, "old")
                self.assertEqual(raised(BadManner, fitting, NODE, "Node", manners).name, "old")
                self.assertEqual(raised(UnknownKind, fitting, NODE, "Zz", manners).name, "Zz")


class TestRight(unittest.TestCase):
    """A comparer without a cause is right: on drawn pairs and on all little webs."""

    def comparers(self, chance, house):
        found = [right_comparer(house, manners) for manners in WITHOUT_OLD]
        found += [drawn_comparer(chance, house, chance.choice([0, 0.05])) for _ in range(3)]
        return [comparer for comparer in found if comparer is not None]

    def test_drawn_pairs(self):
        chance = random.Random(910)
        right = wrong = 0
        for _ in range(60):
            house = drawn_house(chance)
            pairs = [drawn_pair(chance, house, 5) for _ in range(12)]
            for comparer in self.comparers(chance, house):
                for manners in WITHOUT_OLD:
                    verdict = judge_comparer(comparer, manners)
                    for first, second in pairs:
                        result = wrong_result(comparer, manners, first, second, most=20000)
                        right += verdict.is_right
                        wrong += result is not None
                        if verdict.is_right:
                            self.assertIsNone(result)
                        if result == "endless":
                            least = min(cause.size for cause in verdict.causes() if cause.why == "ring")
                            self.assertGreaterEqual(len(first) + len(second), least)
        self.assertGreater(min(right, wrong), 300)

    def test_all_little_webs(self):
        chance = random.Random(911)
        for house, most in (
                (House("Root", [Kind("Root", [link("a", "Root"), link("b", "Leaf")]), Kind("Leaf", [])]), 3),
                (House("Root", [Kind("Root", [link("a", "Leaf"), link("b", "Leaf")]),
                                Kind("Leaf", [link("to", "Leaf")])]), 3),
                (House("Root", [Kind("Root", [link("a", "any"), link("b", "any")]), Kind("Dot", [mark("m")])]), 2)):
            webs = little_webs(house, most)
            answers = {manners.names: {(one, other): alike(webs[one], webs[other], manners)
                                       for one in range(len(webs)) for other in range(len(webs))}
                       for manners in WITHOUT_OLD}
            comparers = self.comparers(chance, house)
            comparers += [Comparer(house, guards=dict(zip(house.names, guards)))
                          for guards in chance.sample(list(itertools.product(GUARDS, repeat=2)), 10)]
            for comparer in comparers:
                results = {(one, other): compare(comparer, webs[one], webs[other])
                           for one in range(len(webs)) for other in range(len(webs))}
                for manners in WITHOUT_OLD:
                    expected = answers[manners.names]
                    wrong = [len(webs[one]) + len(webs[other]) for one, other in results
                             if results[one, other] != ("equal" if expected[one, other] else "unlike")]
                    causes = judge_comparer(comparer, manners).causes()
                    if not causes:
                        self.assertEqual(wrong, [])
                    elif min(cause.size for cause in causes) <= 4:
                        self.assertNotEqual(wrong, [])


def little_webs(house, most):
    """All home webs of at most so many things; marks are 0 or 1."""
    found = []
    for count in range(1, most + 1):
        for kinds in itertools.product(house.names, repeat=count - 1):
            kinds = (house.root, *kinds)
            spots = [(at, field) for at, kind in enumerate(kinds) for field in house.fields_of(kind)]
            choices = []
            for _, field in spots:
                if field.mode == "mark":
                    choices.append([0, 1])
                else:
                    choices.append([None] + [at for at in range(count) if house.admits(field.target, kinds[at])])
            for values in itertools.product(*choices):
                things = [(kind, {}) for kind in kinds]
                for (at, field), value in zip(spots, values):
                    things[at][1][field.name] = value
                web = Web(house, things)
                if is_home(web):
                    found.append(web)
    return found


class TestMetKinds(unittest.TestCase):
    def test_forks_and_rings(self):
        house = House("Root", [
            Kind("Far", [link("root", "Root")]), Kind("Root", [link("a", "Part"), many("all", "Leaf")]),
            Kind("Part", [link("part", "Part"), link("dot", "Dot")]), Kind("Leaf", []), Kind("Dot", [])])
        found = met_kinds(comparer=Comparer(house))
        self.assertEqual(list(found.items()), [("Root", (False, False)), ("Part", (False, True)), ("Leaf", (True, False)),
                                               ("Dot", (True, False))])
        self.assertEqual(met_kinds(Comparer(house, out=[("Root", "a")])),
                         {"Root": (False, False), "Leaf": (True, False)})
        two = House("Root", [Kind("Root", [link("a", "Root"), link("b", "Root"), link("leaf", "Leaf")]), Kind("Leaf", [])])
        self.assertEqual(met_kinds(Comparer(two)), {"Root": (True, True), "Leaf": (True, False)})

    def test_drawn(self):
        chance = random.Random(97)
        for _ in range(100):
            comparer = drawn_comparer(chance, drawn_house(chance), 0.2)
            plain = PlainCauses(comparer, NONE)
            self.assertEqual(list(met_kinds(comparer).items()), [
                (kind, (plain.fork(kind) is not None, (kind, kind) in plain.whole))
                for kind in comparer.house.names if kind in plain.depth])


class TestRanks(unittest.TestCase):
    def test_ranks(self):
        house = House("Root", [
            Kind("Root", [link("a", "Part"), link("b", "Leaf")]), Kind("Far", [link("far", "Far")]),
            Kind("Part", [link("c", "Other"), link("leaf", "Leaf")]), Kind("Other", [link("leaf", "Leaf")]),
            Kind("Leaf", [])])
        self.assertEqual(list(ranks(comparer=Comparer(house)).items()),
                         [("Root", 3), ("Part", 2), ("Other", 1), ("Leaf", 0)])
        self.assertEqual(ranks(Comparer(house, guards={"Other": "way pair"})), {"Root": 2, "Part": 1, "Leaf": 0})
        self.assertEqual(ranks(Comparer(house, guards={"Part": "lasting map", "Leaf": "way left"})),
                         {"Root": 0, "Other": 0})
        self.assertEqual(ranks(Comparer(house, out=[("Root", "a"), ("Root", "b")])), {"Root": 0})

    def test_a_cause_ring(self):
        self.assertIsNone(ranks(Comparer(NODE)))
        self.assertEqual(ranks(Comparer(NODE, guards={"Node": "way left"})), {})
        chance = random.Random(98)
        for _ in range(100):
            comparer = drawn_comparer(chance, drawn_house(chance), 0.1)
            causes = [cause.why for cause in judge_comparer(comparer, NONE).causes()]
            self.assertEqual(ranks(comparer) is None, "ring" in causes)


class TestWrongResult(unittest.TestCase):
    one = Web(NODE, [("Node", {"all": [1, 1]}), ("Node", {})])
    two = Web(NODE, [("Node", {"all": [1, 2]}), ("Node", {}), ("Node", {})])

    def test_each_result(self):
        none, match = Comparer(NODE), Comparer(NODE, guards={"Node": "lasting match"})
        for manners, wrong_none, wrong_match in [(NONE, None, "unlike"), (ASK, "equal", None), (SET, "equal", None)]:
            self.assertEqual(wrong_result(comparer=none, manners=manners, first=self.one, second=self.two), wrong_none)
            self.assertEqual(wrong_result(match, manners, self.one, self.two), wrong_match)
        ring = chain(NODE, "Node", "next", 2, ring=True)
        for manners in WITHOUT_OLD:
            self.assertEqual(wrong_result(none, manners, ring, ring), "endless")
            self.assertIsNone(wrong_result(match, manners, ring, ring))

    def test_errors(self):
        comparer = Comparer(NODE)
        strange = Web(town_house(), [("Town", {})])
        line, ring = chain(NODE, "Node", "next", 131), chain(NODE, "Node", "next", 131, ring=True)
        self.assertEqual(raised(BadManner, wrong_result, comparer, Manners("old"), strange, strange).name, "old")
        self.assertEqual(raised(BadHouse, wrong_result, comparer, NONE, strange, line).name, "first")
        self.assertEqual(raised(BadHouse, wrong_result, comparer, NONE, line, strange).name, "second")
        self.assertEqual(raised(TooLarge, wrong_result, comparer, NONE, line, line, most=130).count, 130)
        # The webs are too large to be alike or not, unless the comparison is endless.
        self.assertEqual(raised(TooLarge, wrong_result, comparer, NONE, self.one, line).count, 131)
        self.assertEqual(wrong_result(comparer, NONE, ring, ring), "endless")


class TestGuards(unittest.TestCase):
    def test_fitting(self):
        chance = random.Random(96)
        for _ in range(60):
            house = drawn_house(chance)
            kind = chance.choice(house.names)
            for manners in WITHOUT_OLD:
                fits = fitting(house=house, kind=kind, manners=manners)
                expected = []
                for guard in GUARDS:
                    causes = judge_comparer(others(house, kind, guard), manners).causes()
                    if all(cause.why == "ring" or cause.kind != kind for cause in causes):
                        expected.append(guard)
                self.assertEqual(fits, expected)

    def test_fitting_by_hand(self):
        self.assertEqual(fitting(NODE, "Node", NONE), ["none", "way pair", "lasting pair"])
        self.assertEqual(fitting(NODE, "Node", ASK), ["lasting match"])
        house = House("Root", [Kind("Root", [link("a", "Leaf")]), Kind("Leaf", [mark("m")]), Kind("Far", [link("f", "Far")])])
        for kind in house.names:
            self.assertEqual(fitting(house, kind, ASK_SET), list(GUARDS))
        for value in any_values() + ["any", ["Root"]]:
            self.assertEqual(raised(UnknownKind, fitting, house, value, ASK).name, value)

    def test_fewest_guards_by_hand(self):
        line = House("Root", [Kind("Root", [link("a", "Leaf")]), Kind("Leaf", [mark("m")])])
        two = House("Root", [Kind("Root", [link("a", "Leaf"), link("b", "Leaf")]), Kind("Leaf", [mark("m")])])
        ring = House("Root", [Kind("Root", [link("a", "Part")]), Kind("Part", [link("b", "Other")]),
                              Kind("Other", [link("c", "Part")])])
        bare = House("Root", [Kind("Root", [link("a", "Part"), link("b", "Part")]), Kind("Part", [link("to", "Dot")]),
                              Kind("Dot", [])])
        for house, manners, fewest, guards in [
                (line, ASK_SET, [()], {"Root": "none", "Leaf": "none"}), (two, NONE, [()], {"Root": "none", "Leaf": "none"}),
                (two, SET, [("Leaf",)], {"Root": "none", "Leaf": "lasting match"}),
                (ring, NONE, [("Part",), ("Other",)], {"Root": "none", "Part": "way pair", "Other": "none"}),
                (ring, ASK, [("Part", "Other")], {"Root": "none", "Part": "way match", "Other": "way match"}),
                (bare, ASK, [("Part", "Dot")], {"Root": "none", "Part": "lasting match", "Dot": "lasting match"}),
                (bare, NONE, [()], {kind: "none" for kind in bare.names}), (bare, SET, [], None)]:
            self.assertEqual(fewest_guards(house=house, manners=manners), fewest)
            found = right_comparer(house=house, manners=manners)
            self.assertEqual(found, None if guards is None else Comparer(house, guards=guards))

    def test_against_all_comparers(self):
        chance = random.Random(95)
        sizes = {}
        while sum(sizes.values()) < 40:
            house = drawn_house(chance)
            if len(met_kinds(Comparer(house))) <= 2 or (len(house) == 3 and sizes.get(3, 0) < 3):
                sizes[len(house)] = sizes.get(len(house), 0) + 1
                self.check(house, chance.choice(WITHOUT_OLD))

    def check(self, house, manners):
        """Checks the fewest guards against all comparers with the guards of a few kinds."""
        met = list(met_kinds(Comparer(house)))
        right = []
        for guards in itertools.product(["none", "way pair", "way match", "lasting match", "lasting left"],
                                        repeat=len(met)):
            if judge_comparer(Comparer(house, guards=dict(zip(met, guards))), manners).is_right:
                right.append(tuple(kind for kind, guard in zip(met, guards) if guard != "none"))
        least = min(map(len, right), default=None)
        expected = sorted({one for one in right if len(one) == least}, key=lambda one: [met.index(kind) for kind in one])
        self.assertEqual(fewest_guards(house, manners), expected)
        found = right_comparer(house, manners)
        if not right:
            self.assertIsNone(found)
            return
        self.assertTrue(judge_comparer(found, manners).is_right)
        self.assertEqual(found.out, ())
        for kind in house.names:
            entry = found.entry(kind)
            if kind in expected[0]:
                self.assertEqual(entry, [guard for guard in fitting(house, kind, manners) if guard != "none"][0])
            else:
                self.assertEqual(entry, "none")

    def test_drawn(self):
        chance = random.Random(94)
        for _ in range(80):
            house = drawn_house(chance)
            for manners in WITHOUT_OLD:
                fewest = fewest_guards(house, manners)
                found = right_comparer(house, manners)
                self.assertEqual(found is None, fewest == [])
                places = [[house.names.index(kind) for kind in one] for one in fewest]
                self.assertEqual(places, sorted(places))
                self.assertTrue(all(one == sorted(one) for one in places))
                if found is not None:
                    self.assertTrue(judge_comparer(found, manners).is_right)


if __name__ == "__main__":
    unittest.main()
