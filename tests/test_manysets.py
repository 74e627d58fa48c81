"""[10.1] to [10.4]: profiles."""

import itertools
import random
import unittest

from tests.drawn import drawn_house, drawn_row
from tests.rowsamples import town_row
from tests.samples import any_values, node_house
from waypairs.errors import TooLarge
from waypairs.manners import Manners
from waypairs.manysets import Profile, greatest_quiet, least_telling
from waypairs.rows import Row
from waypairs.travels import Travel
from waypairs.verdicts import judge

EVERY = Manners.every()
NONE, ASK, OLD, SET, ASK_OLD, ASK_SET, OLD_SET, ALL = EVERY


def every_profile():
    """A profile of each choice of sets, with the sets."""
    for count in range(4):
        for sets in itertools.combinations(EVERY, count):
            yield Profile(sets), list(sets)


def telling(profile):
    """The numbers of the sets that tell by a profile."""
    return [at for at, manners in enumerate(EVERY) if manners in profile]


class TestMaking(unittest.TestCase):
    def check(self, sets, least):
        profile = Profile(sets=sets)
        self.assertEqual(profile.least_sets, tuple(least))
        self.assertIs(type(profile.least_sets), tuple)
        self.assertEqual(list(profile), list(least))

    def test_least_sets(self):
        self.check([], [])
        self.assertEqual(Profile().least_sets, ())
        self.check([ALL, NONE, ASK], [NONE])
        self.check((SET, ASK), [ASK, SET])
        self.check([OLD_SET, ASK_OLD, ASK_SET], [ASK_OLD, ASK_SET, OLD_SET])
        self.check([ALL, ASK_OLD, SET, OLD_SET], [SET, ASK_OLD])
        self.check([OLD, SET, ASK], [ASK, OLD, SET])

    def test_repeated_sets_and_sets_within_others(self):
        self.check([ASK, ASK, Manners("ask")], [ASK])
        self.check([NONE, NONE], [NONE])
        self.check([ASK_OLD, ASK, ASK_OLD, ALL, ASK], [ASK])

    def test_given_lists_are_copied(self):
        sets = [ASK]
        profile = Profile(sets)
        sets.append(NONE)
        self.assertEqual(profile.least_sets, (ASK,))

    def test_all(self):
        for profile, sets in every_profile():
            expected = [at for at, manners in enumerate(EVERY) if any(one.within(manners) for one in sets)]
            self.assertEqual(telling(profile), expected)
            self.assertEqual(len(profile), len(expected))
            self.assertIs(profile.is_quiet, not sets)
            for one, other in itertools.permutations(profile, 2):
                self.assertFalse(one.within(other))


class TestAnswers(unittest.TestCase):
    def test_in(self):
        profile = Profile([ASK_OLD, SET])
        self.assertEqual([manners in profile for manners in EVERY],
                         [False, False, False, True, True, True, True, True])
        self.assertIs(ALL in profile, True)
        for value in any_values():
            if not isinstance(value, Manners):
                self.assertIs(value in profile, False)

    def test_len_and_quiet(self):
        for sets, count in [([], 0), ([NONE], 8), ([ASK], 4), ([ASK, SET], 6), ([ASK_OLD], 2), ([ALL], 1),
                            ([ASK_OLD, OLD_SET], 3), ([ASK, OLD, SET], 7)]:
            self.assertEqual((len(Profile(sets)), Profile(sets).is_quiet), (count, count == 0))

    def test_greatest(self):
        for sets, greatest in [([], [ALL]), ([NONE], []), ([ASK], [OLD_SET]), ([ASK, SET], [OLD]),
                               ([ASK_OLD], [ASK_SET, OLD_SET]), ([ASK_OLD, OLD_SET], [OLD, ASK_SET]),
                               ([ALL], [ASK_OLD, ASK_SET, OLD_SET]), ([ASK, OLD, SET], [NONE]),
                               ([ASK_OLD, ASK_SET, OLD_SET], [ASK, OLD, SET])]:
            self.assertEqual(Profile(sets).greatest(), greatest)
        for profile, _ in every_profile():
            expected = [one for one in EVERY if one not in profile
                        and all(other in profile for other in EVERY if one.within(other) and one != other)]
            self.assertEqual(profile.greatest(), expected)
            self.assertIs(type(profile.greatest()), list)

    def test_two_profiles(self):
        profiles = [profile for profile, _ in every_profile()]
        for one in profiles[::3]:
            for other in profiles[::2]:
                first, second = set(telling(one)), set(telling(other))
                self.assertEqual(set(telling(one | other)), first | second)
                self.assertEqual(set(telling(one & other)), first & second)
                self.assertIs(one.within(other=other), first <= second)
                self.assertIs(one == other, first == second)
        self.assertEqual((Profile([ASK]) | Profile([SET, ASK_OLD])).least_sets, (ASK, SET))
        self.assertEqual((Profile([ASK]) & Profile([SET, OLD])).least_sets, (ASK_OLD, ASK_SET))
        for empty in (Profile() & Profile([NONE]), Profile([NONE]) & Profile(), Profile() | Profile()):
            self.assertTrue(empty.is_quiet)
        self.assertFalse(Profile([ASK]) == (ASK,))
        self.assertFalse(Profile() == [])

    def test_two_loops_at_once(self):
        profile = Profile([ASK, SET])
        self.assertEqual([(one.names, other.names) for one in profile for other in profile],
                         [(("ask",), ("ask",)), (("ask",), ("set",)), (("set",), ("ask",)), (("set",), ("set",))])


class TestOfVerdicts(unittest.TestCase):
    def check(self, verdict, least):
        profile = Profile.of(verdict=verdict)
        self.assertEqual(profile.least_sets, tuple(least))
        self.assertEqual(least_telling(verdict=verdict), list(least))
        self.assertEqual(greatest_quiet(verdict=verdict), profile.greatest())
        for manners in EVERY:
            self.assertEqual(manners in profile, verdict.tells(manners))

    def test_each(self):
        endless = Travel(node_house(), fates={("Node", "all"): "new"})
        self.check(judge(Row([endless])), [NONE])
        self.check(judge(town_row()), [])
        self.check(judge(town_row({("Leaf", "m"): "lost"})), [NONE])
        self.check(judge(town_row({("Root", "a"): "new"})), [ASK, SET])
        self.check(judge(town_row({("Root", "tag"): "goes"})), [ASK_OLD, OLD_SET])
        self.check(judge(town_row({("Root", "tag"): "goes", ("Root", "a"): "new"})), [ASK, SET])
        told = least_telling(judge(town_row({("Root", "a"): "new"})))
        told.clear()

    def test_facts_of_drawn_rows(self):
        chance = random.Random(104)
        seen = set()
        for _ in range(150):
            row = drawn_row(chance, drawn_house(chance), chance.randrange(1, 4), saving=0.3)
            try:
                verdict = judge(row)
            except TooLarge:
                continue
            least = least_telling(verdict)
            self.check(verdict, least)
            self.assertNotIn(OLD, least)
            self.assertTrue(SET not in least or ASK in least)
            seen.add(tuple(manners.names for manners in least))
        self.assertGreater(len(seen), 3)


if __name__ == "__main__":
    unittest.main()
