"""[9.3] to [9.5]: comparisons, event by event."""

import random
import unittest

from tests.drawn import drawn_house
from tests.plain import some_web
from tests.plaincompare import PlainComparing, drawn_comparer, drawn_pair
from tests.samples import chain, link, many, mark, node_house, raised, town_house
from waypairs.comparers import Comparer
from waypairs.comparing import Comparing, compare
from waypairs.errors import BadHouse, TooLarge
from waypairs.kinds import House, Kind
from waypairs.webs import Web

NODE = node_house()
HOUSE = House("Root", [
    Kind("Root", [mark("m"), link("a", "any"), link("b", "any"), many("all", "any")]),
    Kind("Leaf", [mark("n")]), Kind("Dot", [])])
# One leaf by both links, and a leaf by each of them.
ONE = Web(HOUSE, [("Root", {"a": 1, "b": 1}), ("Leaf", {})])
TWO = Web(HOUSE, [("Root", {"a": 1, "b": 2}), ("Leaf", {}), ("Leaf", {})])
EVERY_WAY = [guard for guard in Comparer.GUARDS if guard.startswith("way")]
BOTH = [("enter", 0, 0), ("enter", 1, 1), ("leave", 1, 1)]


def node_web(*values):
    return Web(NODE, [("Node", one) for one in values])


class Comparisons(unittest.TestCase):
    def check(self, comparer, first, second, events, result, **more):
        """Checks a comparison event by event; the comparison."""
        made = Comparing(comparer=comparer, first=first, second=second, **more)
        self.assertEqual((made.comparer, made.entered, made.result, made.events(), made.notes(), made.on_way()),
                         (comparer, 0, None, [], [], []))
        for at, event in enumerate(events):
            self.assertIsNone(made.result)
            self.assertEqual(made.step(), event)
            self.assertEqual(made.events(), events[:at + 1])
        self.assertEqual(made.result, result)
        kept = (made.notes(), made.on_way(), made.entered)
        for _ in range(3):
            self.assertIsNone(made.step())
        self.assertEqual((made.finish(), made.events()), (result, events))
        self.assertEqual((made.notes(), made.on_way(), made.entered), kept)
        self.assertEqual(kept[2], sum(event[0] == "enter" for event in events))
        self.assertEqual(compare(comparer=comparer, first=first, second=second, **more), result)
        return made

    def leaves(self, guard, first, second, events, result):
        """Checks how leaves with a guard are compared, in a root without one."""
        return self.check(Comparer(HOUSE, guards={"Leaf": guard}), first, second, events, result)


class TestGuards(Comparisons):
    def test_without_notes(self):
        entered = [*BOTH, ("enter", 1, 2), ("leave", 1, 2), ("leave", 0, 0)]
        for guard in ["none", *EVERY_WAY]:
            self.assertEqual(self.leaves(guard, ONE, TWO, entered, "equal").notes(), [])

    def test_one_thing_on_the_left(self):
        known = [*BOTH, ("known", 1, 2), ("leave", 0, 0)]
        entered = [*BOTH, ("enter", 1, 2), ("leave", 1, 2), ("leave", 0, 0)]
        unlike = [*BOTH, ("unlike", 1, 2, "guard", None)]
        for by, events, result, notes in [
                ("left", known, "equal", [(1, 1)]), ("right", entered, "equal", [(1, 1), (1, 2)]),
                ("pair", entered, "equal", [(1, 1), (1, 2)]), ("map", unlike, "unlike", [(1, 1)]),
                ("match", unlike, "unlike", [(1, 1)])]:
            self.assertEqual(self.leaves("lasting " + by, ONE, TWO, events, result).notes(), notes)

    def test_one_thing_on_the_right(self):
        known = [*BOTH, ("known", 2, 1), ("leave", 0, 0)]
        entered = [*BOTH, ("enter", 2, 1), ("leave", 2, 1), ("leave", 0, 0)]
        unlike = [*BOTH, ("unlike", 2, 1, "guard", None)]
        for by, events, result, notes in [
                ("left", entered, "equal", [(1, 1), (2, 1)]), ("right", known, "equal", [(1, 1)]),
                ("pair", entered, "equal", [(1, 1), (2, 1)]), ("map", entered, "equal", [(1, 1), (2, 1)]),
                ("match", unlike, "unlike", [(1, 1)])]:
            self.assertEqual(self.leaves("lasting " + by, TWO, ONE, events, result).notes(), notes)

    def test_one_thing_on_both_sides(self):
        for by in ("left", "right", "pair", "map", "match"):
            self.leaves("lasting " + by, ONE, ONE, [*BOTH, ("known", 1, 1), ("leave", 0, 0)], "equal")
        for guard in ["none", *EVERY_WAY]:
            self.leaves(guard, ONE, ONE, [*BOTH, ("enter", 1, 1), ("leave", 1, 1), ("leave", 0, 0)], "equal")

    def test_rings(self):
        one, two = chain(NODE, "Node", "next", 1, ring=True), chain(NODE, "Node", "next", 2, ring=True)
        for keep in ("way ", "lasting "):
            for by, first, second, events, result in [
                    ("left", one, two, [("enter", 0, 0), ("known", 0, 1), ("leave", 0, 0)], "equal"),
                    ("right", two, one, [("enter", 0, 0), ("known", 1, 0), ("leave", 0, 0)], "equal"),
                    ("map", one, two, [("enter", 0, 0), ("unlike", 0, 1, "guard", None)], "unlike"),
                    ("match", two, one, [("enter", 0, 0), ("unlike", 1, 0, "guard", None)], "unlike"),
                    *[(by, two, one, [("enter", 0, 0), ("enter", 1, 0), ("known", 0, 0), ("leave", 1, 0),
                                      ("leave", 0, 0)], "equal") for by in ("left", "pair", "map")]]:
                made = self.check(Comparer(NODE, guards={"Node": keep + by}), first, second, events, result)
                if result == "equal":
                    self.assertEqual(made.notes() == [], keep == "way ")

    def test_an_heir_asks_as_its_base(self):
        house = House("Root", [Kind("Root", [link("a", "Base"), link("b", "Base")]), Kind("Base", [], heirs=True),
                               Kind("Heir", [mark("m")], base="Base")])
        web = Web(house, [("Root", {"a": 1, "b": 1}), ("Heir", {})])
        self.check(Comparer(house, guards={"Base": "lasting left"}), web, web,
                   [*BOTH, ("known", 1, 1), ("leave", 0, 0)], "equal")
        self.check(Comparer(house, guards={"Base": "lasting left", "Heir": "none"}), web, web,
                   [*BOTH, ("enter", 1, 1), ("leave", 1, 1), ("leave", 0, 0)], "equal")


class TestFields(Comparisons):
    def test_unlike_kinds_under_an_open_target(self):
        first = Web(HOUSE, [("Root", {"all": [1, 2]}), ("Leaf", {}), ("Dot", {})])
        second = Web(HOUSE, [("Root", {"all": [1, 1]}), ("Leaf", {})])
        for guard in Comparer.GUARDS:
            made = self.leaves(guard, first, second, [*BOTH, ("unlike", 2, 1, "kind", None)], "unlike")
            self.assertEqual(made.on_way(), [(0, 0)])

    def test_marks(self):
        first, second = Web(HOUSE, [("Root", {"m": 1})]), Web(HOUSE, [("Root", {"m": 2, "all": [0]})])
        self.check(Comparer(HOUSE), first, second, [("enter", 0, 0), ("unlike", 0, 0, "field", "m")], "unlike")
        self.check(Comparer(HOUSE, out=[("Root", "m")]), first, second,
                   [("enter", 0, 0), ("unlike", 0, 0, "field", "all")], "unlike")
        self.check(Comparer(HOUSE, out=[("Root", "m"), ("Root", "all")]), first, second,
                   [("enter", 0, 0), ("leave", 0, 0)], "equal")

    def test_links_of_which_one_is_none(self):
        empty = Web(HOUSE, [("Root", {})])
        for first, second in [(ONE, empty), (empty, ONE)]:
            self.check(Comparer(HOUSE), first, second, [("enter", 0, 0), ("unlike", 0, 0, "field", "a")], "unlike")
            self.check(Comparer(HOUSE, out=[("Root", "a")]), first, second,
                       [("enter", 0, 0), ("unlike", 0, 0, "field", "b")], "unlike")
        self.check(Comparer(HOUSE), empty, empty, [("enter", 0, 0), ("leave", 0, 0)], "equal")

    def test_lists(self):
        def web(*places):
            return Web(HOUSE, [("Root", {"all": list(places)}), ("Leaf", {"n": 1}), ("Leaf", {"n": 2})])
        for first, second in [(web(1, 2), web(1)), (web(), web(1)), (web(1), web(1, 1))]:
            self.check(Comparer(HOUSE), first, second, [("enter", 0, 0), ("unlike", 0, 0, "field", "all")], "unlike")
        self.check(Comparer(HOUSE), web(1, 2), web(1, 1),
                   [*BOTH, ("enter", 2, 1), ("unlike", 2, 1, "field", "n")], "unlike")
        self.check(Comparer(HOUSE, out=[("Leaf", "n")]), web(2, 1), web(1, 1), [
            ("enter", 0, 0), ("enter", 2, 1), ("leave", 2, 1), ("enter", 1, 1), ("leave", 1, 1), ("leave", 0, 0)], "equal")

    def test_fields_in_order(self):
        house = House("Root", [Kind("Root", [link("a", "Leaf"), mark("m"), link("b", "Leaf")]), Kind("Leaf", [mark("n")])])
        first = Web(house, [("Root", {"a": 1, "m": 1, "b": 1}), ("Leaf", {})])
        second = Web(house, [("Root", {"a": 1, "m": 2}), ("Leaf", {})])
        # What a link leads to is compared before the mark behind it.
        self.check(Comparer(house), first, second, [*BOTH, ("unlike", 0, 0, "field", "m")], "unlike")
        self.check(Comparer(house, out=[("Root", "m")]), first, second, [*BOTH, ("unlike", 0, 0, "field", "b")], "unlike")
        self.check(Comparer(house, out=[("Root", "a"), ("Root", "m")]), first, second,
                   [("enter", 0, 0), ("unlike", 0, 0, "field", "b")], "unlike")

    def test_fields_of_the_base(self):
        house = House("Root", [Kind("Root", [link("a", "Base")]), Kind("Base", [mark("m")], heirs=True),
                               Kind("Heir", [mark("n")], base="Base")])
        first, second = [Web(house, [("Root", {"a": 1}), ("Heir", {"m": number, "n": 0})]) for number in (1, 2)]
        self.check(Comparer(house, out=[("Base", "m")]), first, second, [*BOTH, ("leave", 0, 0)], "equal")
        self.check(Comparer(house, out=[("Heir", "n")]), first, second,
                   [("enter", 0, 0), ("enter", 1, 1), ("unlike", 1, 1, "field", "m")], "unlike")

    def test_roots(self):
        first, second = ONE.rooted(1, old=0), TWO.rooted(2)
        self.check(Comparer(HOUSE), first, second, [("enter", 1, 2), ("leave", 1, 2)], "equal")
        self.check(Comparer(HOUSE), ONE, second, [("unlike", 0, 2, "kind", None)], "unlike")


class TestNotesAndWay(Comparisons):
    def test_behind_each_step(self):
        web = node_web({"next": 1, "all": [1]}, {})
        none, top, both = [], [(0, 0)], [(0, 0), (1, 1)]
        for keep, expected in [
                ("way", [(top, top, 1), (both, both, 2), (top, top, 2), (both, both, 3), (top, top, 3), (none, none, 3)]),
                ("lasting", [(top, top, 1), (both, both, 2), (both, top, 2), (both, top, 2), (both, none, 2)])]:
            made = Comparing(Comparer(NODE, guards={"Node": keep + " pair"}), web, web)
            states = []
            while made.step() is not None:
                states.append((made.notes(), made.on_way(), made.entered))
            self.assertEqual(states, expected)

    def test_notes_are_ascending(self):
        first = node_web({"all": [2, 1]}, {}, {})
        second = node_web({"all": [1, 2]}, {}, {})
        made = Comparing(Comparer(NODE, guards={"Node": "lasting map"}), first, second)
        made.finish()
        self.assertEqual(made.notes(), [(0, 0), (1, 2), (2, 1)])

    def test_lists_are_new(self):
        made = Comparing(Comparer(HOUSE, guards={"Root": "way pair"}), ONE, TWO)
        made.step()
        for told in (made.events(), made.notes(), made.on_way()):
            told.clear()
        self.assertEqual((made.events(), made.notes(), made.on_way()), ([("enter", 0, 0)], [(0, 0)], [(0, 0)]))
        self.assertEqual(made.finish(), "equal")
        self.assertFalse(made == Comparing(made.comparer, ONE, TWO))

    def test_unlike_leaves_them_as_they_are(self):
        first, second = [node_web({"next": 1}, {"next": 2}, {"age": age}) for age in (1, 2)]
        made = self.check(Comparer(NODE, guards={"Node": "way match"}), first, second, [
            ("enter", 0, 0), ("enter", 1, 1), ("enter", 2, 2), ("unlike", 2, 2, "field", "age")], "unlike")
        self.assertEqual((made.notes(), made.on_way()), ([(0, 0), (1, 1), (2, 2)],) * 2)


class TestEndless(Comparisons):
    def test_rings_without_guards(self):
        for count in (1, 2, 5):
            ring = chain(NODE, "Node", "next", count, ring=True)
            events = [("enter", at, at) for at in range(count)] + [("endless", 0, 0)]
            made = self.check(Comparer(NODE), ring, ring, events, "endless")
            self.assertEqual((made.on_way(), made.notes()), ([(at, at) for at in range(count)], []))
        # Rings of two lengths meet again only after both.
        two, three = [chain(NODE, "Node", "next", count, ring=True) for count in (2, 3)]
        self.check(Comparer(NODE), two, three, [("enter", at % 2, at % 3) for at in range(6)] + [("endless", 0, 0)],
                   "endless")

    def test_a_pair_that_is_on_the_way_several_times(self):
        house = House("Root", [Kind("Root", [link("a", "Part")]), Kind("Part", [link("root", "Root")])])
        one = Web(house, [("Root", {"a": 1}), ("Part", {"root": 0})])
        two = Web(house, [("Root", {"a": 1}), ("Part", {"root": 2}), ("Root", {"a": 3}), ("Part", {"root": 0})])
        # Between the two entries of (0, 0) there is a pair with a guard.
        made = self.check(Comparer(house, guards={"Part": "way pair"}), one, one, [
            ("enter", 0, 0), ("enter", 1, 1), ("enter", 0, 0), ("known", 1, 1), ("leave", 0, 0), ("leave", 1, 1),
            ("leave", 0, 0)], "equal")
        made = Comparing(Comparer(house, guards={"Part": "way pair"}), one, two)
        for _ in range(5):
            made.step()
        self.assertEqual(made.on_way(), [(0, 0), (1, 1), (0, 2), (1, 3), (0, 0)])
        self.assertEqual(made.finish(), "equal")

    def test_endless_behind_a_guard(self):
        house = House("Root", [Kind("Root", [link("a", "Part")]), Kind("Part", [link("part", "Part"), link("root", "Root")])])
        web = Web(house, [("Root", {"a": 1}), ("Part", {"part": 2}), ("Part", {"part": 1})])
        made = self.check(Comparer(house, guards={"Root": "lasting match"}), web, web, [
            ("enter", 0, 0), ("enter", 1, 1), ("enter", 2, 2), ("endless", 1, 1)], "endless")
        self.assertEqual((made.notes(), made.on_way()), ([(0, 0)], [(0, 0), (1, 1), (2, 2)]))
        # The latest entry of the pair counts: the guard stands before it.
        web = Web(house, [("Root", {"a": 1}), ("Part", {"root": 0, "part": 1})])
        made = self.check(Comparer(house, guards={"Root": "way match"}), web, web, [
            ("enter", 0, 0), ("enter", 1, 1), ("endless", 1, 1)], "endless")

    def test_left_pairs_are_no_ring(self):
        first = node_web({"next": 1, "all": [1, 1]}, {})
        self.check(Comparer(NODE), first, first, [("enter", 0, 0), *[("enter", 1, 1), ("leave", 1, 1)] * 3, ("leave", 0, 0)],
                   "equal")


class TestTooLarge(Comparisons):
    def test_most_at_its_edges(self):
        line = chain(NODE, "Node", "next", 5)
        self.assertEqual(compare(Comparer(NODE), line, line, most=5), "equal")
        for most in (1, 2, 4):
            made = Comparing(Comparer(NODE, guards={"Node": "lasting pair"}), line, line, most=most)
            pairs = [(at, at) for at in range(most)]
            for _ in range(2):
                self.assertEqual(raised(TooLarge, made.finish).count, most)
                self.assertEqual(raised(TooLarge, made.step).count, most)
                self.assertEqual((made.result, made.entered, made.notes(), made.on_way()), (None, most, pairs, pairs))
                self.assertEqual(made.events(), [("enter", *pair) for pair in pairs])
            self.assertEqual(raised(TooLarge, compare, Comparer(NODE), line, line, most=most).count, most)

    def test_within_fields(self):
        # The entry that is refused is still ahead, whatever stands before it.
        web = node_web({"all": [1, 1, 2]}, {}, {"next": 1})
        made = Comparing(Comparer(NODE), web, web, most=3)
        raised(TooLarge, made.finish)
        told = made.events()
        self.assertEqual(told[-1], ("leave", 1, 1))
        raised(TooLarge, made.step)
        self.assertEqual((made.events(), made.on_way()), (told, [(0, 0)]))

    def test_endless_comes_first(self):
        ring = chain(NODE, "Node", "next", 3, ring=True)
        self.assertEqual(compare(Comparer(NODE), ring, ring, most=3), "endless")
        self.assertEqual(raised(TooLarge, compare, Comparer(NODE), ring, ring, most=2).count, 2)
        self.assertEqual(compare(Comparer(NODE, guards={"Node": "way left"}), ring, ring, most=3), "equal")

    def test_without_most(self):
        for count, most in [(2000, {}), (2001, {"most": 2001}), (4000, {"most": 20000})]:
            line = chain(NODE, "Node", "next", count, ring=True)
            self.assertEqual(compare(Comparer(NODE, guards={"Node": "way match"}), line, line, **most), "equal")
        line = chain(NODE, "Node", "next", 2001)
        self.assertEqual(raised(TooLarge, compare, Comparer(NODE), line, line).count, 2000)

    def test_doubling(self):
        things = [("Node", {"all": [at + 1, at + 1]}) for at in range(14)] + [("Node", {})]
        web = Web(NODE, things)
        self.assertEqual(raised(TooLarge, compare, Comparer(NODE), web, web, most=20000).count, 20000)
        self.assertEqual(compare(Comparer(NODE, guards={"Node": "lasting pair"}), web, web, most=15), "equal")


class TestHouses(unittest.TestCase):
    def test_houses_that_are_not_equal(self):
        other = Web(town_house(), [("Town", {})])
        comparer = Comparer(HOUSE)
        for call in (Comparing, compare):
            self.assertEqual(raised(BadHouse, call, comparer, other, ONE).name, "first")
            self.assertEqual(raised(BadHouse, call, comparer, other, other).name, "first")
            self.assertEqual(raised(BadHouse, call, comparer, ONE, other).name, "second")
        again = Web(House("Root", [HOUSE.kind_named(name) for name in HOUSE.names]), [("Root", {})])
        self.assertEqual(compare(comparer, again, again), "equal")


class TestDrawn(unittest.TestCase):
    def check(self, comparer, first, second, most):
        plain = PlainComparing(comparer, first, second, most)
        made = Comparing(comparer, first, second, most=most)
        for event, notes, way, entries in plain.told:
            self.assertEqual(made.step(), event)
            self.assertEqual((made.notes(), made.on_way(), made.entered), (notes, way, entries))
        if plain.result == "TooLarge":
            self.assertEqual(raised(TooLarge, made.step).count, most)
            self.assertEqual((made.notes(), made.on_way(), made.entered), (notes, way, entries))
        else:
            self.assertEqual((made.step(), made.result), (None, plain.result))
        return plain.result

    def test_drawn(self):
        chance = random.Random(93)
        results = {}
        for _ in range(500):
            house = drawn_house(chance)
            pair = drawn_pair(chance, house)
            result = self.check(drawn_comparer(chance, house), *pair, chance.choice([5, 60]))
            results[result] = results.get(result, 0) + 1
        for _ in range(300):
            pair = [some_web(chance, chance.randrange(1, 5), marks=1, places=2) for _ in range(2)]
            result = self.check(drawn_comparer(chance, NODE, 0.2), *pair, chance.choice([5, 60]))
            results[result] = results.get(result, 0) + 1
        self.assertGreater(min(results.values()), 15)
        self.assertEqual(len(results), 4)


if __name__ == "__main__":
    unittest.main()
