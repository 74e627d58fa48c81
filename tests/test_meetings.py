"""[7.5], [7.6]: memos and meetings of two ways."""

import itertools
import random
import unittest

from tests.plainstandings import plain_alone, plain_meeting, plain_together
from tests.plainways import comes_by_twice, drawn_journeys, parted_at, seen_ways
from waypairs.journeys import journey
from waypairs.meetings import alone, meeting, together

YES, NO = True, False


class TestMemos(unittest.TestCase):
    def test_one_way_alone(self):
        self.assertEqual(alone(fates=("goes", "new"), made=(1, 2), others=(1, 2), memos=(YES, YES)), (YES, NO))
        self.assertEqual(alone(("goes", "goes"), (1, 2), (1, 2), (NO, YES)), (NO, YES))
        # Travels that are not in both.
        self.assertEqual(alone(("goes", "goes", "goes", "goes"), (1, 2), (2, 3), (YES, YES, YES, YES)),
                         (NO, YES, NO, NO))
        self.assertEqual(alone(("stays", "named", "goes"), (3,), (1, 2, 3), (YES, YES, YES)), (NO, NO, YES))
        self.assertEqual(alone(["new"], (1,), (1,), (NO,)), (NO,))

    def test_both_together(self):
        self.assertEqual(together(fates=("goes", "goes"), made=(1, 2), others=(1, 2), memos=(NO, YES),
                                  same=(YES, NO)), (YES, YES))
        self.assertEqual(together(("goes", "goes"), (1, 2), (1, 2), (NO, NO), (NO, NO)), (NO, NO))
        self.assertEqual(together(("new", "new"), (1, 2), (1, 2), (YES, YES), (YES, NO)), (YES, NO))
        self.assertEqual(together(("goes", "new", "goes", "new"), (1, 2), (3, 4), (YES,) * 4, (YES,) * 4), (NO,) * 4)
        self.assertEqual(together(("goes", "new"), (), (), (YES, YES), (YES, YES)), (NO, NO))

    def test_they_are_truth_values(self):
        for found in (alone(("goes",), (1,), (1,), (YES,)), together(("new",), (1,), (1,), (YES,), (NO,)),
                      meeting(("itself",), (1,), (1,), (YES,)), meeting(("marks",), (), (), (NO,))):
            self.assertIs(type(found), tuple)
            self.assertIs(type(found[0]), bool)

    def test_all(self):
        for fates in itertools.product(("goes", "new"), repeat=2):
            for made, others in itertools.product([(), (1,), (2,), (1, 2)], repeat=2):
                for memos, same in itertools.product(itertools.product((YES, NO), repeat=2), repeat=2):
                    self.assertEqual(alone(fates, made, others, memos), plain_alone(2, fates, made, others, memos))
                    self.assertEqual(together(fates, made, others, memos, same),
                                     plain_together(2, fates, made, others, memos, same))


class TestMeetings(unittest.TestCase):
    def test_each_rule(self):
        for rule, memo, before, expected in [
                ("itself", YES, YES, YES), ("itself", NO, YES, NO), ("itself", YES, NO, NO), ("marks", YES, NO, YES),
                ("marks", NO, YES, NO), ("never", YES, YES, NO)]:
            self.assertEqual(meeting(rules=(rule,), made=(1,), others=(1,), memos=(memo,), home=before), (expected,))

    def test_one_made_and_none(self):
        self.assertEqual(meeting(("itself", "marks"), (1,), (2,), (YES, YES)), (NO, NO))
        self.assertEqual(meeting(("itself", "marks"), (), (), (NO, NO)), (YES, YES))
        self.assertEqual(meeting(("itself", "marks"), (), (), (YES, YES), home=False), (NO, NO))
        self.assertEqual(meeting(("itself", "itself", "never"), (2,), (2,), (NO, YES, NO)), (YES, YES, YES))
        self.assertEqual(meeting(("never", "itself", "marks"), (1, 3), (1, 3), (YES, NO, YES)), (NO, NO, YES))
        self.assertEqual(meeting(("never", "itself"), (1,), (), (NO, NO)), (NO, NO))

    def test_a_step_that_was_taken_together(self):
        self.assertEqual(meeting(("never", "itself"), (1, 2), (1, 2), (NO, YES), same=(YES, NO)), (YES, YES))
        self.assertEqual(meeting(("never", "never"), (1, 2), (1, 2), (NO, NO), same=(NO, YES)), (NO, YES))
        self.assertEqual(meeting(("never", "never"), (1,), (2,), (NO, NO), same=(YES, YES)), (YES, YES))
        self.assertEqual(meeting(("itself", "itself"), (), (), (NO, NO), same=(NO, NO)), (YES, YES))
        self.assertEqual(meeting(("itself",), (1,), (1,), (YES,), same=None, home=True), (YES,))

    def test_all(self):
        mades = [(), (1,), (2,), (1, 2)]
        pairs = list(itertools.product((YES, NO), repeat=2))
        for rules in itertools.product(("itself", "marks", "never"), repeat=2):
            for made, others, memos in itertools.product(mades, mades, pairs):
                for same, home in itertools.product([None, *pairs], (YES, NO)):
                    self.assertEqual(meeting(rules, made, others, memos, same=same, home=home),
                                     plain_meeting(rules, made, others, memos, same, home))


class TestJourneys(unittest.TestCase):
    """Two ways that come by nothing twice, but for their ends, and what they find in the heap of a journey."""

    def setUp(self):
        self.seen = {}

    def count(self, *what):
        self.seen[what] = self.seen.get(what, 0) + 1

    def memos_seen(self, first, second):
        heap = first.made.heap
        return tuple(k in first.word[1] and k in second.word[1]
                     and heap.memo_of(first.levels[k]) == heap.memo_of(second.levels[k])
                     for k in range(1, first.lens.size + 1))

    def ones_seen(self, first, second):
        return tuple(one == other for one, other in list(zip(first.as_found(), second.as_found()))[1:])

    def memos_told(self, first, second):
        """M at the end of two ways that step on by themselves from where they part, one after the other."""
        lens = first.lens
        count = parted_at(first, second)
        words = {}
        for way in (first, second):
            words[way] = [lens.start[1:]]
            for at, (field, _) in enumerate(way.way):
                words[way].append(lens.step(words[way][-1], field, first.made.heap.kind_of(way.home[at + 1])))
        memos = tuple(k in words[first][count][1] for k in range(1, lens.size + 1))
        for way, other in ((first, words[second][count][1]), (second, first.word[1])):
            for at in range(count, len(way.way)):
                memos = alone(way.fates(at), words[way][at + 1][1], other, memos)
        return memos

    def check(self, first, second, ways):
        memos = self.memos_told(first, second)
        self.assertEqual(memos, self.memos_seen(first, second))
        if first.home[-1] != second.home[-1]:
            return
        rules = first.lens.rules(first.word[0])
        ones = meeting(rules, first.word[1], second.word[1], memos)
        self.assertEqual(ones, self.ones_seen(first, second))
        self.count("meet", ones[-1], len(set(ones)))
        for after in ways:
            if after.way[:-1] != first.way or not after.way:
                continue
            for other in ways:
                if other.way == [*second.way, after.way[-1]]:
                    self.check_together(after, other, memos, ones)

    def check_together(self, first, second, memos, ones):
        both = together(first.fates(len(first.way) - 1), first.word[1], second.word[1], memos, ones)
        self.assertEqual(both, self.memos_seen(first, second))
        after = meeting(first.lens.rules(first.word[0]), first.word[1], second.word[1], both, same=ones)
        self.assertEqual(after, self.ones_seen(first, second))
        self.count("together", ones[-1], after[-1])

    def test_drawn(self):
        chance = random.Random(71)
        for lens, made in drawn_journeys(chance, 120):
            ways = seen_ways(lens, made, 25)
            for first, second in itertools.permutations(ways, 2):
                if not comes_by_twice(first, second):
                    self.check(first, second, ways)
        for what in [("meet", True, 1), ("meet", False, 1), ("meet", False, 2), ("together", False, False),
                     ("together", False, True)]:
            self.assertGreater(self.seen.get(what, 0), 10, what)

    def test_things_with_equal_marks(self):
        """Leaves that differ at home, and are one thing or not behind the row."""
        chance = random.Random(72)
        for lens, made in drawn_journeys(chance, 150):
            house = lens.row.home
            ways = [way for way in seen_ways(lens, made, 25) if house.is_leaf(way.word[0])
                    and house.key_of(way.word[0]) is None]
            for first, second in itertools.permutations(ways, 2):
                if first.word[0] == second.word[0] and first.home[-1] != second.home[-1]:
                    if not comes_by_twice(first, second):
                        memos = self.memos_told(first, second)
                        ones = meeting(lens.rules(first.word[0]), first.word[1], second.word[1], memos, home=False)
                        self.check_joined(first, second, ones[-1])
        self.assertGreater(min(self.seen[True,], self.seen[False,]), 10)

    def check_joined(self, first, second, expected):
        """Whether two leaves would be one at the end if their marks were equal, found with a web in which they are."""
        web = first.made.web_at(0)
        numbers = first.made.numbers_at(0)
        one, other = numbers.index(first.home[-1]), numbers.index(second.home[-1])
        for name in web.house.marks_of(first.word[0]):
            web = web.with_value(other, name, web[one, name])
        made = journey(first.lens.row, web)
        level = first.lens.size
        self.assertEqual(made.thing_at(level, first.way) == made.thing_at(level, second.way), expected)
        self.count(expected)


if __name__ == "__main__":
    unittest.main()
