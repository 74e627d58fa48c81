"""[4.9], [4.10]: walks that never end or grow too large, and busy heaps."""

import unittest

from tests.samples import chain, link, many, mark, node_house, raised, town_house, town_web
from waypairs.errors import BadTravel, Busy, Endless, TooLarge
from waypairs.events import walk_events, walk_fault
from waypairs.kinds import House, Kind
from waypairs.travels import Travel
from waypairs.walk import Heap, Walk
from waypairs.webs import Web

NODE = node_house()
COPY = Travel(NODE)
NEW = Travel(NODE, fates={("Node", "next"): "new"})
NEVER = Travel(NODE, rules={"Node": "never"})


def state(heap):
    """All that can be asked of a heap, but for its busyness."""
    things = [(heap.kind_of(n), heap.origin_of(n), heap.memo_of(n), heap.travel_of(n),
               [heap[n, field.name] for field in heap.house_of(n).fields_of(heap.kind_of(n))])
              for n in range(len(heap))]
    return heap.root, heap.level, heap.house, things


def filled(count):
    """A heap of this many things, a multiple of 80, behind walks over a root that holds leaves; and its house."""
    house = House("A", [Kind("A", [many("all", "B")]), Kind("B", [mark("age")])])
    places = count // 80 - 1
    heap = Heap(Web(house, [("A", {"all": list(range(1, places + 1))})] + [("B", {}) for _ in range(places)]))
    while len(heap) + places + 1 <= count:
        Walk(heap, Travel(house)).finish()
    return heap, house


class TestEndless(unittest.TestCase):
    def endless(self, web, travel, events, ring):
        heap = Heap(web)
        before = state(heap)
        walk = Walk(heap, travel)
        self.assertEqual(raised(Endless, walk.finish).travel, 1)
        self.assertEqual((walk.told(), walk.ring), (events, ring))
        self.assertIs(type(walk.ring), tuple)
        self.assertEqual((walk.is_over, walk.result, walk.step(), walk.finish()), (True, None, None, None))
        self.assertEqual((state(heap), heap.is_busy), (before, False))
        self.assertEqual((walk.told(), walk.ring), (events, ring))

    def test_a_ring_by_new(self):
        self.endless(chain(NODE, "Node", "next", 1, ring=True), NEW, [("enter", 0, 1, 0)], (0,))
        self.endless(chain(NODE, "Node", "next", 2, ring=True), NEW, [("enter", 0, 2, 0), ("enter", 1, 3, 1)], (0, 1))

    def test_a_ring_of_kinds_that_are_never_known(self):
        self.endless(chain(NODE, "Node", "next", 3, ring=True), NEVER,
                     [("enter", 0, 3, 0), ("enter", 1, 4, 0), ("enter", 2, 5, 0)], (0, 1, 2))

    def test_a_ring_behind_a_lead(self):
        web = Web(NODE, [("Node", {"next": 1}), ("Node", {"next": 2}), ("Node", {"next": 1})])
        self.endless(web, NEVER, [("enter", 0, 3, 0), ("enter", 1, 4, 0), ("enter", 2, 5, 0)], (1, 2))

    def two_kinds(self, **fates):
        house = House("A", [Kind("A", [link("b", "B"), link("a", "A")]), Kind("B", [link("b", "B"), link("a", "A")])])
        web = Web(house, [("A", {"b": 1, "a": 2}), ("B", {}), ("A", {"b": 1, "a": 0})])
        return web, Travel(house, rules={"A": "never"},
                           fates={("A", name): fate for name, fate in fates.items()})

    def test_never_with_things_kept_in_the_memo(self):
        # The second entry of the root has one thing kept, as the first one had none; the third one has one again.
        web, travel = self.two_kinds()
        self.endless(web, travel, [
            ("enter", 0, 3, 0), ("enter", 1, 4, 0), ("leave", 1), ("enter", 2, 5, 0), ("known", 1, 4),
            ("enter", 0, 6, 0), ("known", 1, 4)], (2, 0))

    def test_as_many_things_in_another_memo(self):
        # Each time round there is one thing in a memo of its own when the things of A are due, until none is.
        house = House("A", [Kind("A", [link("b", "B"), link("to", "A")]), Kind("B", [link("c", "C")]), Kind("C", [])])
        web = Web(house, [("A", {"b": 1, "to": 0}), ("B", {"c": 2}), ("C", {})])
        travel = Travel(house, rules={"A": "never"}, fates={("B", "c"): "new"})
        self.endless(web, travel, [
            ("enter", 0, 3, 0), ("enter", 1, 4, 0), ("enter", 2, 5, 1), ("leave", 2), ("leave", 1), ("enter", 0, 6, 0),
            ("known", 1, 4)], (0,))

    def test_the_same_number_above_zero_needs_the_same_memo(self):
        # B holds C and then, by new, D; D holds a leaf and B again: B is due with one thing kept in another memo.
        house = House("A", [Kind("A", [link("leaf", "L"), link("b", "B")]), Kind("L", []),
                            Kind("B", [link("d", "D")]), Kind("D", [link("leaf", "L"), link("b", "B")])])
        web = Web(house, [("A", {"leaf": 1, "b": 2}), ("L", {}), ("B", {"d": 3}), ("D", {"leaf": 1, "b": 2})])
        travel = Travel(house, rules={"A": "never", "B": "never", "D": "never"}, fates={("B", "d"): "new"})
        self.endless(web, travel, [
            ("enter", 0, 4, 0), ("enter", 1, 5, 0), ("leave", 1), ("enter", 2, 6, 0), ("enter", 3, 7, 1),
            ("enter", 1, 8, 1), ("leave", 1), ("enter", 2, 9, 1)], (3, 2))

    def test_an_entry_that_has_been_left_is_not_repeated(self):
        web = Web(NODE, [("Node", {"all": [1, 1, 1]}), ("Node", {})])
        heap = Heap(web)
        walk = Walk(heap, NEVER)
        self.assertEqual(walk.finish(), 2)
        self.assertEqual((walk.ring, heap[2, "all"]), (None, [3, 4, 5]))

    def test_an_entry_that_had_fewer_things_kept_is_not_repeated(self):
        house = House("A", [Kind("A", [link("b", "B")]), Kind("B", [link("a", "A")])])
        heap = Heap(Web(house, [("A", {"b": 1}), ("B", {"a": 0})]))
        walk = Walk(heap, Travel(house, rules={"A": "never"}))
        self.assertEqual((walk.finish(), walk.ring, len(walk.told())), (2, None, 7))

    def test_the_level(self):
        heap = Heap(chain(NODE, "Node", "next", 2, ring=True))
        for level in range(3):
            walk = Walk(heap, NEW)
            self.assertEqual(raised(Endless, walk.finish).travel, level + 1)
            self.assertEqual(len(walk.ring), 2)
            self.assertEqual((heap.level, heap.is_busy), (level, False))
            Walk(heap, COPY).finish()


class TestTooLarge(unittest.TestCase):
    def test_full_heaps(self):
        heap, house = filled(4000)
        self.assertEqual(len(heap), 4000)
        before = state(heap)
        walk = Walk(heap, Travel(house))
        self.assertEqual(raised(TooLarge, walk.step).count, 4000)
        self.assertEqual((walk.told(), walk.ring, walk.is_over, walk.result), ([], None, True, None))
        self.assertEqual((state(heap), heap.is_busy, walk.step()), (before, False, None))

    def test_one_thing_less(self):
        house = House("A", [Kind("A", [link("b", "B")]), Kind("B", [])])
        heap = Heap(Web(house, [("A", {})]))
        for _ in range(3998):
            Walk(heap, Travel(house)).finish()
        self.assertEqual((len(heap), heap.level), (3999, 3998))
        self.assertEqual(Walk(heap, Travel(house)).finish(), 3999)
        self.assertEqual(len(heap), 4000)
        self.assertEqual(raised(TooLarge, Walk(heap, Travel(house)).finish).count, 4000)
        heap = Heap(Web(house, [("A", {"b": 1}), ("B", {})]))
        stay = Travel(house, fates={("A", "b"): "stays"})
        for _ in range(3997):
            Walk(heap, stay).finish()
        self.assertEqual(len(heap), 3999)
        walk = Walk(heap, Travel(house))
        self.assertEqual(walk.step(), ("enter", heap.root, 3999, 0))
        self.assertEqual(len(heap), 4000)
        self.assertEqual(raised(TooLarge, walk.step).count, 4000)
        self.assertEqual((walk.told(), len(heap), heap.level), ([("enter", heap.root, 3999, 0)], 3999, 3997))

    def test_growth(self):
        # Twelve things in a chain, each held twice by the one before, never known: 2 ** 12 entries.
        def twice(count):
            return Web(NODE, [("Node", {"all": [at + 1, at + 1]}) for at in range(count - 1)] + [("Node", {})])
        self.assertEqual(Walk(Heap(twice(11)), NEVER).finish(), 11)
        walk = Walk(Heap(twice(12)), NEVER)
        self.assertEqual(raised(TooLarge, walk.finish).count, 4000)
        self.assertIsNone(walk.ring)

    def test_endless_comes_first(self):
        house = House("A", [Kind("A", [link("a", "A")])])
        heap = Heap(Web(house, [("A", {"a": 0})]))
        for _ in range(3998):
            Walk(heap, Travel(house)).finish()
        walk = Walk(heap, Travel(house, fates={("A", "a"): "new"}))
        walk.step()
        self.assertEqual(len(heap), 4000)
        self.assertEqual(raised(Endless, walk.step).travel, 3999)


class TestBusy(unittest.TestCase):
    def setUp(self):
        self.heap = Heap(town_web())
        self.town = town_house()
        self.travel = Travel(self.town)

    def check_busy(self, count):
        heap = self.heap
        self.assertIs(heap.is_busy, True)
        self.assertEqual((heap.root, heap.level, heap.house, len(heap)), (0, 0, self.town, count))
        for travel in (self.travel, COPY):
            raised(Busy, Walk, heap, travel)
            raised(Busy, walk_fault, heap, travel, [])
            events = walk_events(heap, travel)
            raised(Busy, next, events)
        raised(Busy, heap.copied)

    def check_free(self):
        self.assertIs(self.heap.is_busy, False)
        walk = Walk(self.heap, self.travel)
        self.assertIs(self.heap.is_busy, True)
        walk.give_up()

    def test_while_a_walk_goes_on(self):
        walk = Walk(self.heap, self.travel)
        self.check_busy(8)
        for count in (9, 10, 11, 11, 12):
            walk.step()
            self.check_busy(count)
        self.assertIn(11, self.heap)
        self.assertEqual(self.heap.kind_of(11), "Paper")
        walk.finish()
        self.assertEqual((self.heap.root, self.heap.level, len(self.heap)), (8, 1, 16))
        self.check_free()

    def test_giving_up(self):
        before = state(self.heap)
        for steps in (0, 1, 5):
            walk = Walk(self.heap, self.travel)
            told = [walk.step() for _ in range(steps)]
            self.assertIsNone(walk.give_up())
            self.assertEqual((walk.is_over, walk.result, walk.ring, walk.told()), (True, None, None, told))
            self.assertEqual(state(self.heap), before)
            self.assertIsNone(walk.step())
            self.assertIsNone(walk.finish())
            # Giving up once more does nothing, also while another walk is open.
            other = Walk(self.heap, self.travel)
            other.step()
            self.assertIsNone(walk.give_up())
            self.check_busy(9)
            other.give_up()
            self.check_free()

    def test_giving_up_behind_the_end(self):
        walk = Walk(self.heap, self.travel)
        walk.finish()
        self.assertIsNone(walk.give_up())
        self.assertEqual((walk.result, self.heap.root, len(self.heap)), (8, 8, 16))

    def test_after_an_error(self):
        endless = Travel(self.town, fates={("Person", "friend"): "new"})
        raised(Endless, Walk(self.heap, endless).finish)
        self.check_free()
        self.assertEqual(raised(BadTravel, Walk, self.heap, COPY).field, None)
        self.check_free()

    def test_copied(self):
        Walk(self.heap, self.travel).finish()
        other = self.heap.copied()
        self.assertEqual(state(other), state(self.heap))
        self.assertNotEqual(other, self.heap)
        Walk(other, self.travel).finish()
        self.assertEqual((len(other), len(self.heap), other.level, self.heap.level), (24, 16, 2, 1))
        walk = Walk(other, self.travel)
        walk.step()
        self.assertIs(self.heap.is_busy, False)
        Walk(self.heap, self.travel).finish()
        self.assertEqual((len(other), len(self.heap)), (25, 24))
        self.assertEqual(other.home_thing("Tag", 5), 5)


if __name__ == "__main__":
    unittest.main()
