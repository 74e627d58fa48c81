"""[4.4] to [4.8]: heaps, and what walks make and tell."""

import random
import unittest

from tests.drawn import drawn_edition, drawn_home, drawn_house, drawn_travel
from tests.plainwalk import PlainEnd, PlainHeap
from tests.samples import any_values, chain, link, many, mark, node_house, raised, town_house, town_web
from waypairs.editions import reader_fault
from waypairs.errors import BadTravel, BadWeb, Endless, TooLarge, UnknownField
from waypairs.kinds import House, Kind
from waypairs.rules import fault
from waypairs.travels import Travel
from waypairs.walk import Heap, Walk
from waypairs.webs import Web

NODE = node_house()
TOWN = town_house()


def walked(web, travel):
    """The heap behind a walk, and its events."""
    heap = Heap(web)
    walk = Walk(heap, travel)
    walk.finish()
    return heap, walk.told()


def pair_house(rule_marks=True):
    """A root with a link and a list to leaves, registered tags and to itself."""
    return House("Root", [
        Kind("Root", [mark("m"), link("one", "Leaf"), many("some", "Leaf"), link("tag", "Tag"), many("tags", "Tag"),
                      link("self", "Root")]),
        Kind("Leaf", [mark("a", default=7), mark("b")]),
        Kind("Tag", [mark("code"), mark("tone")], key="code", registered=True),
    ])


PAIR = pair_house()


def pair_web():
    """Thing 1 and 2 are leaves with equal marks, 3 one with others; 4 and 5 are tags."""
    return Web(PAIR, [("Root", {"m": 5, "one": 1, "some": [2, 1, 2, 3], "tag": 4, "tags": [5, 4, 5]}),
                      ("Leaf", {"a": 1, "b": 2}), ("Leaf", {"a": 1, "b": 2}), ("Leaf", {"a": 1, "b": 3}),
                      ("Tag", {"code": 10, "tone": 1}), ("Tag", {"code": -3, "tone": 1})])


class TestHeap(unittest.TestCase):
    def test_home(self):
        web = town_web()
        heap = Heap(web=web)
        self.assertEqual((heap.house, heap.root, heap.level, heap.is_busy, len(heap)), (web.house, 0, 0, False, 8))
        self.assertEqual((Heap.MOST, heap.MOST), (4000, 4000))
        for n in range(len(web)):
            self.assertIn(n, heap)
            self.assertEqual(heap.kind_of(n), web.kind_of(n))
            self.assertEqual((heap.origin_of(n), heap.memo_of(n), heap.travel_of(n)), (None, None, 0))
            self.assertEqual((heap.house_of(n), heap.descent(n)), (web.house, [n]))
            for field in web.house.fields_of(web.kind_of(n)):
                self.assertEqual(heap.value_of(n=n, field=field.name), web[n, field.name])
                self.assertEqual(heap[n, field.name], web[n, field.name])

    def test_values_are_copies(self):
        heap = Heap(town_web())
        heap.value_of(0, "parts").append(9)
        heap[0, "parts"].clear()
        self.assertEqual(heap[0, "parts"], [2, 5, 6, 2])

    def test_no_home_webs(self):
        two = [("Node", {"next": 1}), ("Node", {})]
        for web in [Web(NODE, two, here=1), Web(NODE, two, old=1), Web(NODE, [("Node", {}), ("Node", {})]),
                    Web(TOWN, [("Dot", {})]), chain(NODE, "Node", "next", 61),
                    Web(TOWN, [("Town", {"parts": [1, 2]}), ("Note", {"line": 1}), ("Note", {"line": 1})])]:
            self.assertEqual(raised(BadWeb, Heap, web).thing, fault(web)[1])
        self.assertEqual(len(Heap(chain(NODE, "Node", "next", 60))), 60)

    def test_any_values(self):
        heap = Heap(town_web())
        for value in any_values() + [8, "0", 8.0]:
            self.assertNotIn(value, heap)
            for call in (heap.kind_of, heap.origin_of, heap.memo_of, heap.travel_of, heap.house_of, heap.descent):
                self.assertIs(raised(BadWeb, call, value).thing, value)
            self.assertIs(raised(BadWeb, heap.value_of, value, value).thing, value)
            self.assertIs(raised(BadWeb, lambda: heap[value, "size"]).thing, value)
        for value in any_values() + ["age", "Town", "here"]:
            for call in (lambda: heap.value_of(0, value), lambda: heap[0, value]):
                error = raised(UnknownField, call)
                self.assertEqual(error.kind, "Town")
                self.assertIs(error.name, value)

    def test_home_thing(self):
        heap = Heap(pair_web())
        self.assertEqual((heap.home_thing("Tag", 10), heap.home_thing(kind="Tag", key=-3)), (4, 5))
        for value in any_values() + ["Leaf", 11, "10", 1]:
            self.assertIsNone(heap.home_thing("Tag", value))
            self.assertIsNone(heap.home_thing(value, 10))
            self.assertIsNone(heap.home_thing(value, value))
        # A kind that has a key, but is not registered.
        web = Web(TOWN, [("Town", {"parts": [1, 2]}), ("Note", {"line": 1}), ("Tag", {"code": 1})])
        self.assertIsNone(Heap(web).home_thing("Note", 1))
        self.assertEqual(Heap(web).home_thing("Tag", 1), 2)
        self.assertIsNone(Heap(web).home_thing("Tag", True))

    def test_only_equal_to_itself_and_not_walked_over(self):
        heap = Heap(town_web())
        self.assertNotEqual(heap, Heap(town_web()))
        with self.assertRaises(TypeError):
            list(heap)

    def test_the_web_is_not_changed(self):
        web = town_web()
        walked(web, Travel(TOWN))
        self.assertEqual(web, town_web())


class TestFates(unittest.TestCase):
    def check(self, fates, events, rules=None, **values):
        """Events without those of the root, and values of the new root."""
        heap, told = walked(pair_web(), Travel(PAIR, fates=fates, rules=rules))
        self.assertEqual(told[0], ("enter", 0, 6, 0))
        self.assertEqual(told[-1], ("leave", 0))
        self.assertEqual(told[1:-1], events)
        for name, value in values.items():
            self.assertEqual(heap[6, name], value, name)
        return heap

    def only(self, **fates):
        """All fields lost but these."""
        lost = {("Root", name): "lost" for name in ("one", "some", "tag", "tags")}
        return {**lost, **{("Root", name): fate for name, fate in fates.items()}}

    def test_lost(self):
        self.check(self.only(), [], m=5, one=None, some=[], tag=None, tags=[])
        self.check(self.only(m="lost"), [], m=0)

    def test_goes(self):
        heap = self.check(self.only(one="goes", some="goes"), [
            ("enter", 1, 7, 0), ("leave", 1), ("enter", 2, 8, 0), ("leave", 2), ("known", 1, 7), ("known", 2, 8),
            ("enter", 3, 9, 0), ("leave", 3)], one=7, some=[8, 7, 8, 9])
        self.assertEqual([heap.memo_of(n) for n in range(5, 10)], [None, 0, 0, 0, 0])

    def test_new(self):
        heap = self.check(self.only(one="new", some="new"), [
            ("enter", 1, 7, 1), ("leave", 1), ("enter", 2, 8, 2), ("leave", 2), ("enter", 1, 9, 3), ("leave", 1),
            ("enter", 2, 10, 4), ("leave", 2), ("enter", 3, 11, 5), ("leave", 3)], one=7, some=[8, 9, 10, 11])
        self.assertEqual([heap.memo_of(n) for n in range(6, 12)], [0, 1, 2, 3, 4, 5])

    def test_stays(self):
        self.check(self.only(one="stays", some="stays", tag="stays"), [
            ("stays", 1), ("stays", 2), ("stays", 1), ("stays", 2), ("stays", 3), ("stays", 4)],
            one=1, some=[2, 1, 2, 3], tag=4)

    def test_named(self):
        self.check(self.only(tag="named", tags="named"), [
            ("named", 4, 4), ("named", 5, 5), ("named", 4, 4), ("named", 5, 5)], tag=4, tags=[5, 4, 5])

    def test_registered_things_are_arrived_at_like_others(self):
        self.check(self.only(tag="goes", tags="goes"), [
            ("enter", 4, 7, 0), ("leave", 4), ("enter", 5, 8, 0), ("leave", 5), ("known", 4, 7), ("known", 5, 8)],
            tag=7, tags=[8, 7, 8])

    def test_marks_by_rule(self):
        self.check(self.only(one="goes", some="goes"), [
            ("enter", 1, 7, 0), ("leave", 1), ("known", 2, 7), ("known", 1, 7), ("known", 2, 7), ("enter", 3, 8, 0),
            ("leave", 3)], rules={"Leaf": "marks"}, one=7, some=[7, 7, 7, 8])
        # All marks count, also one that is lost.
        heap = self.check({**self.only(one="goes", some="goes"), ("Leaf", "b"): "lost"}, [
            ("enter", 1, 7, 0), ("leave", 1), ("known", 2, 7), ("known", 1, 7), ("known", 2, 7), ("enter", 3, 8, 0),
            ("leave", 3)], rules={"Leaf": "marks"}, some=[7, 7, 7, 8])
        self.assertEqual([heap[n, "b"] for n in (7, 8)], [0, 0])

    def test_never(self):
        self.check(self.only(one="goes", some="goes"), [
            ("enter", 1, 7, 0), ("leave", 1), ("enter", 2, 8, 0), ("leave", 2), ("enter", 1, 9, 0), ("leave", 1),
            ("enter", 2, 10, 0), ("leave", 2), ("enter", 3, 11, 0), ("leave", 3)],
            rules={"Leaf": "never"}, one=7, some=[8, 9, 10, 11])

    def test_marks_of_the_copy(self):
        heap, _ = walked(pair_web(), Travel(PAIR, fates={("Leaf", "a"): "lost"}))
        self.assertEqual([(heap[7, "a"], heap[7, "b"])], [(7, 2)])
        self.assertEqual((heap.origin_of(7), heap.travel_of(7), heap.house_of(7)), (1, 1, PAIR))

    def test_a_thing_that_holds_itself(self):
        web = Web(PAIR, [("Root", {"m": 1, "self": 0})])
        heap, told = walked(web, Travel(PAIR))
        self.assertEqual(told, [("enter", 0, 1, 0), ("known", 0, 1), ("leave", 0)])
        self.assertEqual((heap[1, "self"], heap[0, "self"], heap.root), (1, 0, 1))
        heap, told = walked(web, Travel(PAIR, fates={("Root", "self"): "stays"}))
        self.assertEqual((told, heap[1, "self"]), ([("enter", 0, 1, 0), ("stays", 0), ("leave", 0)], 0))

    def test_rule_and_fates_of_heirs_and_a_frozen_kind(self):
        heap, told = walked(town_web(), Travel(TOWN, fates={("Person", "friend"): "stays", ("Paper", "stamp"): "lost"},
                                               rules={"Person": "never"}))
        self.assertEqual(told, [
            ("enter", 0, 8, 0), ("enter", 1, 9, 0), ("stays", 2), ("leave", 1), ("enter", 2, 10, 0), ("stays", 1),
            ("enter", 3, 11, 0), ("leave", 3), ("enter", 4, 12, 0), ("leave", 4), ("leave", 2), ("enter", 5, 13, 0),
            ("leave", 5), ("enter", 6, 14, 0), ("known", 0, 8), ("leave", 6), ("enter", 2, 15, 0), ("stays", 1),
            ("known", 3, 11), ("known", 4, 12), ("leave", 2), ("leave", 0)])
        self.assertEqual((heap[10, "papers"], heap[15, "papers"], heap[11, "stamp"]), ([11, 12], [11, 12], None))

    def test_known_by_marks_although_links_hold_unlike_things(self):
        web = Web(NODE, [("Node", {"age": 1, "all": [1, 2]}), ("Node", {"age": 2, "next": 3}), ("Node", {"age": 2}),
                         ("Node", {"age": 3})])
        heap, told = walked(web, Travel(NODE, rules={"Node": "marks"}))
        self.assertEqual(told, [("enter", 0, 4, 0), ("enter", 1, 5, 0), ("enter", 3, 6, 0), ("leave", 3),
                                ("leave", 1), ("known", 2, 5), ("leave", 0)])
        self.assertEqual(heap[4, "all"], [5, 5])
        # The root can be known by its marks.
        web = Web(NODE, [("Node", {"age": 1, "next": 1}), ("Node", {"age": 1})])
        heap, told = walked(web, Travel(NODE, rules={"Node": "marks"}))
        self.assertEqual((told[1], heap[2, "next"]), (("known", 1, 2), 2))

    def test_never_ends_where_kept_things_come_between(self):
        house = House("A", [Kind("A", [link("b", "B")]), Kind("B", [link("a", "A")])])
        web = Web(house, [("A", {"b": 1}), ("B", {"a": 0})])
        _, told = walked(web, Travel(house, rules={"A": "never"}))
        self.assertEqual(told, [("enter", 0, 2, 0), ("enter", 1, 3, 0), ("enter", 0, 4, 0), ("known", 1, 3),
                                ("leave", 0), ("leave", 1), ("leave", 0)])


class TestRules(unittest.TestCase):
    """A list that holds two things of one kind, the first one twice: which copies it holds, by the rule of the kind."""

    house = House("Hall", [
        Kind("Hall", [many("all")]), Kind("Base", [mark("b"), link("to", "Leaf")], heirs=True),
        Kind("Heir", [mark("h")], base="Base"), Kind("Ice", [mark("m"), link("leaf", "Leaf")], frozen=True),
        Kind("Note", [mark("k"), mark("m")], key="k"), Kind("Tag", [mark("k"), mark("m")], key="k", registered=True),
        Kind("Leaf", [mark("m")]),
    ])

    def copies(self, kind, rule, first, second):
        web = Web(self.house, [("Hall", {"all": [1, 2, 1]}), (kind, first), (kind, second)])
        heap, told = walked(web, Travel(self.house, rules={kind: rule}))
        self.assertEqual({event[3] for event in told if event[0] == "enter"}, {0})
        return [n - heap.root for n in heap[heap.root, "all"]]

    def test_each_kind_by_each_rule(self):
        for kind, first, second in [("Base", {"b": 1}, {"b": 2}), ("Heir", {"b": 1, "h": 1}, {"b": 1, "h": 2}),
                                    ("Ice", {"m": 1}, {"m": 2}), ("Note", {"k": 1}, {"k": 2}),
                                    ("Tag", {"k": 1, "m": 5}, {"k": 2, "m": 5}), ("Leaf", {"m": 1}, {"m": 2}),
                                    ("Heir", {"b": 1, "h": 1}, {"b": 2, "h": 1})]:
            self.assertEqual(self.copies(kind, "itself", first, second), [1, 2, 1])
            self.assertEqual(self.copies(kind, "marks", first, second), [1, 2, 1])
            self.assertEqual(self.copies(kind, "never", first, second), [1, 2, 3])

    def test_equal_marks(self):
        for kind, values in [("Base", {"b": 1}), ("Heir", {"b": 1, "h": -1}), ("Ice", {"m": 3}), ("Leaf", {})]:
            self.assertEqual(self.copies(kind, "itself", values, values), [1, 2, 1])
            self.assertEqual(self.copies(kind, "marks", values, values), [1, 1, 1])
            self.assertEqual(self.copies(kind, "never", values, values), [1, 2, 3])

    def test_equal_marks_of_unlike_kinds(self):
        web = Web(self.house, [("Hall", {"all": [1, 2]}), ("Leaf", {"m": 1}), ("Ice", {"m": 1})])
        heap, _ = walked(web, Travel(self.house, rules={"Leaf": "marks", "Ice": "marks"}))
        self.assertEqual(heap[3, "all"], [4, 5])

    def test_the_rule_of_the_base_is_that_of_its_heirs(self):
        web = Web(self.house, [("Hall", {"all": [1, 2, 1, 2]}), ("Base", {}), ("Heir", {})])
        for rules, expected in [({"Base": "never"}, [4, 5, 6, 7]), ({"Base": "never", "Heir": "itself"}, [4, 5, 6, 5]),
                                ({"Heir": "never"}, [4, 5, 4, 6])]:
            heap, _ = walked(web, Travel(self.house, rules=rules))
            self.assertEqual(heap[3, "all"], expected)

    def test_the_memo_of_a_kind_that_is_never_known(self):
        web = Web(self.house, [("Hall", {"all": [1, 1]}), ("Leaf", {})])
        _, told = walked(web, Travel(self.house, rules={"Leaf": "never"}, fates={("Hall", "all"): "new"}))
        self.assertEqual(told, [("enter", 0, 2, 0), ("enter", 1, 3, 1), ("leave", 1), ("enter", 1, 4, 2), ("leave", 1),
                                ("leave", 0)])

    def test_the_rule_of_the_root(self):
        house = House("Root", [Kind("Root", [mark("m"), many("all", "Root"), link("leaf", "Leaf")]), Kind("Leaf", [])])
        web = Web(house, [("Root", {"m": 1, "all": [0, 1], "leaf": 2}), ("Root", {"m": 1, "leaf": 2}), ("Leaf", {})])
        for rule, expected in [("itself", [3, 4]), ("marks", [3, 3])]:
            heap, _ = walked(web, Travel(house, rules={"Root": rule}))
            self.assertEqual(heap[3, "all"], expected)
        raised(Endless, walked, web, Travel(house, rules={"Root": "never"}))


class TestSteps(unittest.TestCase):
    def test_what_is_there_after_each_step(self):
        heap = Heap(pair_web())
        walk = Walk(heap=heap, travel=Travel(PAIR, fates={("Root", "tags"): "named", ("Root", "one"): "stays"}))
        self.assertEqual((walk.is_over, walk.result, walk.ring, walk.told()), (False, None, None, []))
        self.assertEqual(len(heap), 6)
        expected = [
            (("enter", 0, 6, 0), (5, None, [], None, [])), (("stays", 1), (5, 1, [], None, [])),
            (("enter", 2, 7, 0), (5, 1, [7], None, [])), (("leave", 2), (5, 1, [7], None, [])),
            (("enter", 1, 8, 0), (5, 1, [7, 8], None, [])), (("leave", 1), (5, 1, [7, 8], None, [])),
            (("known", 2, 7), (5, 1, [7, 8, 7], None, [])), (("enter", 3, 9, 0), (5, 1, [7, 8, 7, 9], None, [])),
            (("leave", 3), (5, 1, [7, 8, 7, 9], None, [])), (("enter", 4, 10, 0), (5, 1, [7, 8, 7, 9], 10, [])),
            (("leave", 4), (5, 1, [7, 8, 7, 9], 10, [])), (("named", 5, 5), (5, 1, [7, 8, 7, 9], 10, [5])),
            (("named", 4, 4), (5, 1, [7, 8, 7, 9], 10, [5, 4])),
            (("named", 5, 5), (5, 1, [7, 8, 7, 9], 10, [5, 4, 5])), (("leave", 0), (5, 1, [7, 8, 7, 9], 10, [5, 4, 5]))]
        for at, (event, values) in enumerate(expected):
            self.assertFalse(walk.is_over)
            told = walk.step()
            self.assertEqual(told, event)
            self.assertIs(type(told), tuple)
            self.assertEqual(tuple(heap[6, name] for name in ("m", "one", "some", "tag", "tags")), values)
            self.assertEqual(walk.told(), [one for one, _ in expected[:at + 1]])
        self.assertEqual((walk.is_over, walk.result, heap.root, heap.level, len(heap)), (True, 6, 6, 1, 11))
        for _ in range(3):
            self.assertIsNone(walk.step())
        self.assertEqual(walk.finish(), 6)
        self.assertEqual(walk.told(), [one for one, _ in expected])

    def test_finish_in_the_middle(self):
        heap = Heap(pair_web())
        walk = Walk(heap, Travel(PAIR))
        first = [walk.step() for _ in range(4)]
        self.assertEqual(walk.finish(), 6)
        self.assertEqual(walk.told()[:4], first)
        self.assertEqual(walk.told(), walked(pair_web(), Travel(PAIR))[1])

    def test_told_is_a_new_list(self):
        walk = Walk(Heap(pair_web()), Travel(PAIR))
        walk.finish()
        walk.told().clear()
        self.assertEqual(walk.told()[0], ("enter", 0, 6, 0))

    def test_deep_rings(self):
        heap, told = walked(chain(NODE, "Node", "next", 60, ring=True), Travel(NODE))
        self.assertEqual((len(heap), told[60], heap[119, "next"]), (120, ("known", 0, 60), 60))


class TestSeveral(unittest.TestCase):
    def test_descent_and_levels(self):
        heap = Heap(pair_web())
        first = Travel(PAIR, fates={("Root", "some"): "stays", ("Root", "one"): "stays"})
        self.assertEqual(Walk(heap, first).finish(), 6)
        self.assertEqual((heap.root, heap.level, len(heap)), (6, 1, 9))
        self.assertEqual(Walk(heap, Travel(PAIR)).finish(), 9)
        self.assertEqual((heap.root, heap.level), (9, 2))
        self.assertEqual([(heap.origin_of(n), heap.travel_of(n), heap.memo_of(n), heap.descent(n))
                          for n in (9, 10, 13)],
                         [(6, 2, 0, [0, 6, 9]), (1, 2, 0, [1, 10]), (7, 2, 0, [4, 7, 13])])

    def test_named_in_a_later_travel(self):
        heap = Heap(pair_web())
        Walk(heap, Travel(PAIR)).finish()
        walk = Walk(heap, Travel(PAIR, fates={("Root", "tag"): "named", ("Root", "tags"): "named"}))
        root = walk.finish()
        copies = heap[6, "tags"]
        self.assertEqual(heap[root, "tags"], [5, 4, 5])
        self.assertIn(("named", copies[0], 5), walk.told())
        self.assertNotEqual(copies[0], 5)
        self.assertEqual(heap.home_thing("Tag", -3), 5)
        # Found again and then copied: the copy is one of the home thing.
        root = Walk(heap, Travel(PAIR)).finish()
        self.assertEqual(heap.descent(heap[root, "tag"]), [4, heap[root, "tag"]])

    def test_marks_that_an_earlier_travel_has_lost(self):
        heap = Heap(pair_web())
        Walk(heap, Travel(PAIR, fates={("Leaf", "b"): "lost"})).finish()
        walk = Walk(heap, Travel(PAIR, rules={"Leaf": "marks"}))
        root = walk.finish()
        self.assertEqual(len(set(heap[root, "some"])), 1)

    def test_earlier_things_are_not_changed(self):
        chance = random.Random(5)
        heap = Heap(pair_web())
        before = []
        for _ in range(4):
            now = [(heap.kind_of(n), [heap[n, field.name] for field in heap.house_of(n).fields_of(heap.kind_of(n))])
                   for n in range(len(heap))]
            self.assertEqual(now[:len(before)], before)
            before = now
            Walk(heap, drawn_travel(chance, PAIR, fates=("goes", "new", "named"))).finish()


class TestSaving(unittest.TestCase):
    def test_fields_of_the_reader(self):
        reader = House("Root", [
            Kind("Root", [link("sole", "Leaf", was=["one"]), mark("m", default=9), many("tags", "Tag"),
                          link("new", "Leaf")]),
            Kind("Leaf", [mark("a", default=8), mark("c", was=["b"])]),
            Kind("Tag", [mark("code"), mark("tone")], key="code", registered=True),
        ])
        self.assertIsNone(reader_fault(PAIR, reader))
        heap, told = walked(pair_web(), Travel(PAIR, reader=reader, fates={("Root", "tags"): "named"}))
        # All fields of the source are walked, also those that nobody takes.
        self.assertEqual(told, [
            ("enter", 0, 6, 0), ("enter", 1, 7, 0), ("leave", 1), ("enter", 2, 8, 0), ("leave", 2), ("known", 1, 7),
            ("known", 2, 8), ("enter", 3, 9, 0), ("leave", 3), ("enter", 4, 10, 0), ("leave", 4), ("named", 5, 5),
            ("named", 4, 4), ("named", 5, 5), ("leave", 0)])
        self.assertEqual((heap[6, "sole"], heap[6, "m"], heap[6, "tags"], heap[6, "new"]), (7, 9, [5, 4, 5], None))
        self.assertEqual((heap[7, "a"], heap[7, "c"]), (8, 2))
        self.assertEqual((heap.house, heap.house_of(6), heap.house_of(0)), (reader, reader, PAIR))
        self.assertEqual(raised(UnknownField, heap.value_of, 6, "one").name, "one")
        self.assertEqual((raised(BadTravel, Walk, heap, Travel(PAIR)).kind, heap.is_busy), (None, False))
        # And back.
        root = Walk(heap, Travel(reader, reader=PAIR)).finish()
        self.assertEqual((heap.house, heap[root, "m"], heap[root, "one"], heap[root, "some"]), (PAIR, 0, None, []))
        back = Travel(reader, reader=PAIR.with_kinds([
            Kind("Root", [link("one", "Leaf", was=["sole"])]), *[PAIR.kind_named(name) for name in ("Leaf", "Tag")]]))
        heap, _ = walked(pair_web(), Travel(PAIR, reader=reader))
        root = Walk(heap, back).finish()
        self.assertEqual([heap[heap[root, "one"], name] for name in ("a", "b")], [7, 0])

    def test_a_lost_mark_has_the_default_of_the_reader(self):
        writer = House("A", [Kind("A", [mark("a", default=3), mark("b")])])
        reader = House("A", [Kind("A", [mark("c", default=3, was=["a"]), mark("b", default=4)])])
        web = Web(writer, [("A", {"a": 1, "b": 1})])
        heap, _ = walked(web, Travel(writer, reader=reader))
        self.assertEqual((heap[1, "c"], heap[1, "b"]), (1, 4))
        heap, _ = walked(web, Travel(writer, reader=reader, fates={("A", "a"): "lost"}))
        self.assertEqual((heap[1, "c"], heap[1, "b"]), (3, 4))

    def test_an_heir_takes_another_field_than_its_base(self):
        writer = House("R", [Kind("R", [many("all", "Base")]), Kind("Base", [mark("a")], heirs=True),
                             Kind("Heir", [mark("b")], base="Base")])
        reader = House("R", [Kind("R", [many("all", "Base")]), Kind("Base", [mark("c", was=["b", "a"])], heirs=True),
                             Kind("Heir", [], base="Base")])
        web = Web(writer, [("R", {"all": [1, 2]}), ("Base", {"a": 1}), ("Heir", {"a": 2, "b": 3})])
        heap, _ = walked(web, Travel(writer, reader=reader))
        self.assertEqual((heap[4, "c"], heap[5, "c"]), (1, 3))
        heap, _ = walked(web, Travel(writer, reader=reader, fates={("Base", "a"): "lost"}))
        self.assertEqual((heap[4, "c"], heap[5, "c"]), (0, 3))

    def test_equal_houses_that_were_made_apart(self):
        heap = Heap(town_web())
        self.assertEqual(Walk(heap, Travel(town_house(), reader=town_house())).finish(), 8)
        self.assertEqual(Walk(heap, Travel(town_house())).finish(), 16)


class TestDrawn(unittest.TestCase):
    def test_as_a_plain_walk(self):
        chance = random.Random(11)
        ends = {"end": 0, "Endless": 0, "TooLarge": 0}
        for _ in range(400):
            house = drawn_house(chance)
            web = drawn_home(chance, house, chance.choice([2, 6, 12]))
            heap, plain = Heap(web), PlainHeap(web)
            for _ in range(chance.randrange(1, 5)):
                reader = drawn_edition(chance, heap.house) if chance.random() < 0.4 else None
                if not self.same_walk(heap, plain, drawn_travel(chance, heap.house, reader=reader), ends):
                    break
        self.assertGreater(min(ends["end"], 20 * ends["Endless"]), 200)

    def same_walk(self, heap, plain, travel, ends):
        walk = Walk(heap, travel)
        events = []
        try:
            plain.walk(travel, events)
        except PlainEnd as e:
            ends[e.name] += 1
            error = raised(Endless if e.name == "Endless" else TooLarge, walk.finish)
            self.assertEqual(vars(error), {"travel": plain.level + 1} if e.name == "Endless" else {"count": 4000})
            self.assertEqual((walk.ring, walk.result), (e.ring, None))
        else:
            ends["end"] += 1
            self.assertEqual((walk.finish(), walk.ring), (plain.root, None))
        self.assertEqual(walk.told(), events)
        self.assertEqual((heap.root, heap.level, heap.house, len(heap)),
                         (plain.root, plain.level, plain.house, len(plain.things)))
        for n, (kind, values, origin, number, memo) in enumerate(plain.things):
            self.assertEqual((heap.kind_of(n), heap.origin_of(n), heap.travel_of(n), heap.memo_of(n)),
                             (kind, origin, number, memo))
            self.assertEqual({name: heap[n, name] for name in values}, values)
        return walk.result is not None


if __name__ == "__main__":
    unittest.main()
