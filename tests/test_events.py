"""The events of walks: entries, the most that are open, judging events, and their texts."""

import random
import unittest

from tests.drawn import drawn_home, drawn_house, drawn_travel
from tests.samples import any_values, chain, node_house, raised, town_house, town_web
from waypairs.errors import BadText, BadTravel, Endless, TooLarge
from waypairs.events import entries, most_open, read_events, walk_events, walk_fault, written
from waypairs.travels import Travel
from waypairs.walk import Heap, Walk
from waypairs.webs import Web

NODE = node_house()
TOWN = town_house()
NEVER = Travel(NODE, rules={"Node": "never"})


class TestEntries(unittest.TestCase):
    def test_entries(self):
        web = Web(NODE, [("Node", {"next": 2, "all": [1, 2, 1]}), ("Node", {"next": 2}), ("Node", {})])
        walk = Walk(Heap(web), NEVER)
        walk.finish()
        found = entries(events=walk.told())
        self.assertEqual(found, {0: [3], 2: [4, 6, 7, 9], 1: [5, 8]})
        self.assertEqual(list(found), [0, 2, 1])
        self.assertEqual(most_open(events=walk.told()), 3)
        self.assertEqual((entries([]), most_open([])), ({}, 0))

    def test_a_part_of_the_events(self):
        walk = Walk(Heap(chain(NODE, "Node", "next", 20)), NEVER)
        for count in range(1, 21):
            walk.step()
            self.assertEqual(most_open(walk.told()), count)
        walk.finish()
        self.assertEqual(most_open(walk.told()), 20)
        self.assertEqual(entries(walk.told()), {at: [20 + at] for at in range(20)})

    def test_other_events_do_not_count(self):
        events = [("enter", 0, 5, 0), ("known", 1, 6), ("stays", 2), ("named", 3, 3), ("enter", 4, 6, 0), ("leave", 4),
                  ("enter", 4, 7, 1), ("leave", 4), ("leave", 0)]
        self.assertEqual(entries(events), {0: [5], 4: [6, 7]})
        self.assertEqual(most_open(events), 2)


class TestWalkEvents(unittest.TestCase):
    def test_the_events_of_a_walk(self):
        heap, other = Heap(town_web()), Heap(town_web())
        walk = Walk(other, Travel(TOWN))
        walk.finish()
        self.assertEqual(list(walk_events(heap=heap, travel=Travel(TOWN))), walk.told())
        self.assertEqual((heap.root, heap.level, heap.is_busy), (other.root, 1, False))

    def test_it_begins_with_the_first_event(self):
        heap = Heap(town_web())
        events = walk_events(heap, Travel(TOWN))
        self.assertIs(heap.is_busy, False)
        other = Walk(heap, Travel(TOWN))
        other.give_up()
        self.assertEqual(next(events), ("enter", 0, 8, 0))
        self.assertIs(heap.is_busy, True)
        self.assertEqual(len(heap), 9)
        rest = list(events)
        self.assertEqual((rest[-1], heap.is_busy, heap.level), (("leave", 0), False, 1))

    def test_errors_come_then(self):
        heap = Heap(chain(NODE, "Node", "next", 2, ring=True))
        events = walk_events(heap, NEVER)
        self.assertEqual([next(events), next(events)], [("enter", 0, 2, 0), ("enter", 1, 3, 0)])
        self.assertEqual(raised(Endless, next, events).travel, 1)
        self.assertEqual((len(heap), heap.is_busy), (2, False))
        events = walk_events(heap, Travel(TOWN))
        self.assertIsNone(raised(BadTravel, next, events).kind)


class TestWalkFault(unittest.TestCase):
    def setUp(self):
        self.heap = Heap(town_web())
        self.travel = Travel(TOWN, fates={("Town", "parts"): "stays"})
        walk = Walk(self.heap.copied(), self.travel)
        walk.finish()
        self.events = walk.told()

    def check(self, events, at):
        self.assertEqual(walk_fault(heap=self.heap, travel=self.travel, events=events), at)
        self.assertEqual((len(self.heap), self.heap.level, self.heap.is_busy), (8, 0, False))

    def test_right_events(self):
        self.check(self.events, None)

    def test_events_left_out_doubled_and_exchanged(self):
        count = len(self.events)
        for at in range(count):
            self.check(self.events[:at], at)
            wrong = at
            while wrong < count - 1 and self.events[wrong] == self.events[wrong + 1]:
                wrong += 1
            self.check(self.events[:at] + self.events[at + 1:], wrong)
            self.check(self.events[:at + 1] + self.events[at:], wrong + 1)
        self.check([self.events[1], self.events[0], *self.events[2:]], 0)
        self.check([*self.events[:3], self.events[4], self.events[3], *self.events[5:]], 3)

    def test_too_many_and_none(self):
        self.check([], 0)
        self.check([*self.events, ("leave", 0)], len(self.events))
        self.check([*self.events, None], len(self.events))
        self.check([None], 0)

    def test_wrong_values(self):
        for at in (0, 3, len(self.events) - 1):
            event = self.events[at]
            wrong = [list(event), (*event, 0), event[:-1], (event[0].upper(), *event[1:]), (*event[:-1], True),
                     (event,)]
            for value in any_values() + wrong:
                self.check([*self.events[:at], value, *self.events[at + 1:]], at)

    def test_true_and_false_are_no_numbers(self):
        heap = Heap(chain(NODE, "Node", "next", 2))
        events = [("enter", 0, 2, 0), ("enter", 1, 3, 0), ("leave", 1), ("leave", 0)]
        self.assertIsNone(walk_fault(heap, Travel(NODE), events))
        self.assertEqual(walk_fault(heap, Travel(NODE), [("enter", False, 2, 0), *events[1:]]), 0)
        self.assertEqual(walk_fault(heap, Travel(NODE), [("enter", 0, 2, False), *events[1:]]), 0)
        self.assertEqual(walk_fault(heap, Travel(NODE), [events[0], ("enter", True, 3, 0), *events[2:]]), 1)
        self.assertEqual(walk_fault(heap, Travel(NODE), [*events[:2], ("leave", True), events[3]]), 2)

    def test_a_walk_that_raises_an_error(self):
        heap = Heap(chain(NODE, "Node", "next", 2, ring=True))
        told = [("enter", 0, 2, 0), ("enter", 1, 3, 0)]
        for count in range(3):
            self.assertEqual(walk_fault(heap, NEVER, told[:count]), count)
        for event in [("enter", 0, 4, 0), ("known", 0, 2), ("leave", 1), None]:
            self.assertEqual(walk_fault(heap, NEVER, [*told, event]), 2)
            self.assertEqual(walk_fault(heap, NEVER, [*told, event, event]), 2)
        self.assertEqual(heap.is_busy, False)
        web = Web(NODE, [("Node", {"all": [at + 1, at + 1]}) for at in range(12)] + [("Node", {})])
        walk = Walk(Heap(web), NEVER)
        raised(TooLarge, walk.finish)
        self.assertEqual(walk_fault(Heap(web), NEVER, walk.told()), len(walk.told()))

    def test_a_later_level(self):
        heap = Heap(town_web())
        Walk(heap, self.travel).finish()
        walk = Walk(heap.copied(), Travel(TOWN))
        walk.finish()
        self.assertIsNone(walk_fault(heap, Travel(TOWN), walk.told()))
        self.assertEqual(walk_fault(heap, Travel(TOWN), self.events), 0)

    def test_raises_as_walk(self):
        self.assertIsNone(raised(BadTravel, walk_fault, self.heap, Travel(NODE), []).field)

    def test_drawn(self):
        chance = random.Random(2)
        for _ in range(60):
            house = drawn_house(chance)
            heap = Heap(drawn_home(chance, house, 6))
            travel = drawn_travel(chance, house)
            walk = Walk(heap.copied(), travel)
            try:
                walk.finish()
                self.assertIsNone(walk_fault(heap, travel, walk.told()))
            except (Endless, TooLarge):
                self.assertEqual(walk_fault(heap, travel, walk.told()), len(walk.told()))


class TestTexts(unittest.TestCase):
    events = [("enter", 0, 2, 0), ("known", 1, 3), ("stays", 17), ("named", 4, 999999999), ("leave", 0)]
    text = "enter 0 2 0\nknown 1 3\nstays 17\nnamed 4 999999999\nleave 0"

    def test_there_and_back(self):
        self.assertEqual(written(events=self.events), self.text)
        self.assertEqual(read_events(text=self.text), self.events)
        self.assertEqual((written([]), read_events("")), ("", []))
        for count in range(1, 5):
            self.assertEqual(read_events(written(self.events[count:])), self.events[count:])
        walk = Walk(Heap(town_web()), Travel(TOWN))
        walk.finish()
        self.assertEqual(read_events(written(walk.told())), walk.told())

    def test_any_order(self):
        self.assertEqual(read_events("leave 3\nleave 3\nenter 9 0 1"), [("leave", 3), ("leave", 3), ("enter", 9, 0, 1)])

    def wrong(self, line):
        for lines in ([], ["stays 1"], ["stays 1", "leave 0"]):
            for behind in ([], ["leave 0"], ["no"]):
                text = "\n".join([*lines, line, *behind])
                if text != "":
                    self.assertEqual(raised(BadText, read_events, text).line, len(lines), text)

    def test_wrong_lines(self):
        for line in ["", " ", "enter", "enter 1", "enter 1 2", "enter 1 2 3 4", "known 1", "known 1 2 3", "stays",
                     "stays 1 2", "named 1", "named 1 2 3", "leave", "leave 1 2", "Enter 1 2 3", "gone 1", "1", "1 1",
                     "enter 1 2 3 ", " enter 1 2 3", "enter  1 2 3", "enter 1 2  3", "enter\t1 2 3", "ring 1",
                     "stays -1", "stays -0", "stays +1", "stays 1.", "stays 1e3", "stays x", "stays 1_0", "leave None",
                     "leave ", "enter,1,2,3", "leave True", "leaves 1", "leave 0x1"]:
            self.wrong(line)

    def test_wrong_numbers_at_each_place(self):
        for event in self.events:
            for at in range(1, len(event)):
                for word in ["00", "01", "000000001", "1000000000", "0999999999", "-1", "", "a", "1 "]:
                    words = [str(part) for part in event]
                    words[at] = word
                    self.wrong(" ".join(words))
                words = [str(part) for part in event]
                words[at] = "999999999"
                self.assertEqual(read_events(" ".join(words))[0][at], 999999999)

    def test_a_line_feed_at_the_end(self):
        self.assertEqual(raised(BadText, read_events, self.text + "\n").line, 5)
        self.assertEqual(raised(BadText, read_events, "\n").line, 0)
        self.assertEqual(raised(BadText, read_events, "\n" + self.text).line, 0)

    def test_no_strings(self):
        for value in any_values():
            if not isinstance(value, str):
                self.assertEqual(raised(BadText, read_events, value).line, -1)


if __name__ == "__main__":
    unittest.main()
