"""[3.1] to [3.5]: sights, ranks, classes and folded webs."""

import random
import unittest

from tests.plain import plain_ranks, plain_sight, shuffled, some_client, some_web
from tests.samples import any_values, chain, node_house, raised, town_house, town_web
from waypairs.clientrun import first_difference, run
from waypairs.errors import BadWeb, TooLarge
from waypairs.manners import Manners
from waypairs.refine import Ranks, classes, folded, sight
from waypairs.rules import fault
from waypairs.webs import Web

NODE = node_house()


def node_web(*values, **roots):
    return Web(NODE, [("Node", one) for one in values], **roots)


class TestSight(unittest.TestCase):
    def test_it_is_what_a_see_line_tells(self):
        web = town_web()
        for thing in range(len(web)):
            self.assertEqual(sight(web, thing), run([("see", "here")], web.rooted(thing))[0])
            self.assertEqual(sight(web=web, thing=thing), plain_sight(web, thing))
        self.assertEqual(sight(web, 2), ("Clerk", [30, 8], [True, 2]))
        told = sight(web, 6)
        self.assertIsInstance(told, tuple)
        self.assertEqual([told[2][0] is False, told[2][1] is True], [True, True])
        told[1].clear()
        self.assertEqual(sight(web, 6)[1], [60])

    def test_wrong_things(self):
        for value in any_values() + [8]:
            self.assertIs(raised(BadWeb, sight, town_web(), value).thing, value)

    def test_a_large_web(self):
        self.assertEqual(sight(chain(NODE, "Node", "next", 4000), 3999), ("Node", [0], [False, 0]))


class TestSizes(unittest.TestCase):
    def test_130_and_131_things(self):
        small, large = chain(NODE, "Node", "next", 130), chain(NODE, "Node", "next", 131)
        larger = chain(NODE, "Node", "next", 140)
        self.assertEqual(len(Ranks(small, small)), 130)
        self.assertEqual(len(classes(small)), 130)
        self.assertEqual(folded(small), small)
        self.assertEqual(raised(TooLarge, Ranks, large, small).count, 131)
        self.assertEqual(raised(TooLarge, Ranks, small, large).count, 131)
        self.assertEqual(raised(TooLarge, Ranks, larger, large).count, 140)
        self.assertEqual(raised(TooLarge, Ranks, large, larger).count, 131)
        self.assertEqual(raised(TooLarge, classes, large).count, 131)
        self.assertEqual(raised(TooLarge, folded, large).count, 131)


class TestRanks(unittest.TestCase):
    def test_by_hand(self):
        first = node_web({"next": 1}, {"next": 2}, {"age": 1}, {"next": 3}, {"age": 8})
        second = node_web({"next": 1}, {"next": 2}, {"age": 2}, {"next": 3})
        ranks = Ranks(first=first, second=second)
        self.assertEqual((ranks.first, ranks.second), (first, second))
        self.assertEqual([[ranks[x, y] for y in range(4)] for x in range(5)],
                         [[2, 1, 0, 2], [1, 1, 0, 1], [0, 0, 0, 0], [2, 1, 0, None], [0, 0, 0, 0]])
        self.assertEqual(ranks.most(), 2)
        self.assertEqual(ranks.of_rank(2), [(0, 0), (0, 3), (3, 0)])
        self.assertEqual(ranks.of_rank(rank=1), [(0, 1), (1, 0), (1, 1), (1, 3), (3, 1)])
        self.assertEqual(len(ranks.of_rank(0)), 11)
        self.assertEqual((ranks.of_rank(3), ranks.of_rank(-1), ranks.of_rank(10 ** 30)), ([], [], []))
        self.assertEqual((len(ranks), list(ranks)), (1, [(3, 3)]))
        self.assertIn((3, 3), ranks)

    def test_no_pair_has_a_rank(self):
        ranks = Ranks(chain(NODE, "Node", "next", 3, ring=True), chain(NODE, "Node", "next", 2, ring=True))
        self.assertIsNone(ranks.most())
        self.assertEqual(list(ranks), [(x, y) for x in range(3) for y in range(2)])
        self.assertEqual([pair for pair in ranks], list(ranks))
        self.assertEqual(ranks.of_rank(0), [])
        none = Ranks(node_web({"age": 1}), node_web({"age": 2}))
        self.assertEqual((len(none), list(none), none.most()), (0, [], 0))

    def test_long_chains(self):
        ranks = Ranks(chain(NODE, "Node", "next", 130), chain(NODE, "Node", "next", 130, age=0))
        self.assertEqual((ranks.most(), ranks[0, 1], ranks[0, 129]), (128, 128, 0))
        longer = Ranks(chain(NODE, "Node", "next", 130), chain(NODE, "Node", "next", 129))
        self.assertEqual((longer.most(), longer[0, 0], longer[1, 0]), (128, 128, None))

    def test_lists_are_compared_place_by_place(self):
        first = node_web({"all": [1, 2]}, {}, {"age": 1})
        second = node_web({"all": [1, 1]}, {}, {"age": 1})
        self.assertEqual((Ranks(first, second)[0, 0], Ranks(first, first)[0, 0]), (1, None))
        self.assertEqual(Ranks(first, node_web({"all": [2, 1]}, {}, {"age": 1}))[0, 0], 1)
        # A list of one and a link that holds something are no equal sights.
        self.assertEqual(Ranks(node_web({"all": [0]}), node_web({"next": 0}))[0, 0], 0)

    def test_a_plain_table(self):
        chance = random.Random(7)
        for _ in range(60):
            first = some_web(chance, chance.randrange(1, 7))
            second = shuffled(chance, first) if chance.random() < 0.4 else some_web(chance, chance.randrange(1, 7))
            ranks, plain = Ranks(first, second), plain_ranks(first, second)
            pairs = [(x, y) for x in range(len(first)) for y in range(len(second))]
            self.assertEqual({pair: ranks[pair] for pair in pairs}, {pair: plain.get(pair) for pair in pairs})
            self.assertEqual(list(ranks), [pair for pair in pairs if pair not in plain])
            self.assertEqual(len(ranks), len(pairs) - len(plain))
            self.assertEqual(ranks.most(), max(plain.values(), default=None))
            for pair in pairs:
                self.assertIs(pair in ranks, pair not in plain)
            for rank in range(4):
                self.assertEqual(ranks.of_rank(rank), [pair for pair in pairs if plain.get(pair) == rank])

    def test_town_webs(self):
        chance = random.Random(8)
        for _ in range(20):
            first = some_web(chance, 6, house=town_house(), kinds=town_house().names)
            second = some_web(chance, 6, house=town_house(), kinds=town_house().names)
            ranks, plain = Ranks(first, second), plain_ranks(first, second)
            self.assertEqual(list(ranks), [(x, y) for x in range(6) for y in range(6) if (x, y) not in plain])

    def test_any_value_in_the_brackets(self):
        ranks = Ranks(node_web({}, {}), node_web({"next": 0}))
        self.assertEqual(ranks[1, 0], 0)
        for value in any_values() + [2, "0"]:
            self.assertIs(raised(BadWeb, lambda x: ranks[x, 0], value).thing, value)
            self.assertIs(raised(BadWeb, lambda x: ranks[x, 9], value).thing, value)
            self.assertIs(raised(BadWeb, lambda y: ranks[1, y], value).thing, value)
        self.assertEqual(raised(BadWeb, lambda y: ranks[1, y], 1).thing, 1)
        self.assertIs(raised(BadWeb, lambda: ranks[True, 0]).thing, True)

    def test_any_value_behind_in(self):
        ranks = Ranks(chain(NODE, "Node", "next", 3, ring=True), chain(NODE, "Node", "next", 2, ring=True))
        self.assertIs((2, 1) in ranks, True)
        for value in any_values() + [(2, 2), (3, 0), (-1, 0), (True, 0), (0, False), (0, True), [0, 0], (0,), (0, 0, 0),
                                     ("0", 0), (0, None), ([0], 0), (0, (0,)), 0, ((0, 0),)]:
            self.assertIs(value in ranks, False)

    def test_lists_are_new(self):
        ranks = Ranks(node_web({}, {}), node_web({"next": 0}))
        list(ranks).clear()
        ranks.of_rank(0).clear()
        self.assertEqual((len(ranks), len(ranks.of_rank(0))), (0, 2))


class TestClasses(unittest.TestCase):
    def test_by_hand(self):
        web = node_web({"next": 2}, {"next": 3, "age": 1}, {"age": 5}, {"age": 5}, {"next": 3}, {"next": 0}, here=1)
        self.assertEqual(classes(web), [[0, 4], [1], [2, 3], [5]])
        self.assertEqual(classes(web=chain(NODE, "Node", "next", 5, ring=True)), [[0, 1, 2, 3, 4]])
        self.assertEqual(classes(chain(NODE, "Node", "next", 3)), [[0], [1], [2]])
        classes(web).clear()
        self.assertEqual(len(classes(web)), 4)

    def test_ordered_by_their_first_numbers(self):
        web = node_web({"age": 3}, {"age": 1}, {"age": 3}, {"age": 0}, {"age": 1}, {"age": 3})
        self.assertEqual(classes(web), [[0, 2, 5], [1, 4], [3]])

    def test_by_ranks(self):
        chance = random.Random(9)
        for _ in range(60):
            web = some_web(chance, chance.randrange(1, 8))
            ranks = Ranks(web, web)
            told = classes(web)
            self.assertEqual(sorted(thing for one in told for thing in one), list(range(len(web))))
            for one in told:
                self.assertEqual(one, [y for y in range(len(web)) if ranks[one[0], y] is None])
            self.assertEqual(told, sorted(told))


class TestFolded(unittest.TestCase):
    def test_by_hand(self):
        web = node_web({"next": 2, "all": [3, 4, 0]}, {"next": 3, "age": 1}, {"age": 5}, {"age": 5},
                       {"next": 2, "all": [2, 0, 4]}, here=4, old=3)
        self.assertEqual(classes(web), [[0, 4], [1], [2, 3]])
        self.assertEqual(folded(web=web), node_web({"next": 2, "all": [2, 0, 0]}, {"next": 2, "age": 1}, {"age": 5},
                                                   here=0, old=2))
        ring = chain(NODE, "Node", "next", 4, ring=True).rooted(2)
        self.assertEqual(folded(ring), node_web({"next": 0}))
        self.assertEqual(folded(ring.rooted(1, old=3)), node_web({"next": 0}, old=0))

    def test_unreached_things_stay(self):
        web = node_web({}, {"age": 1}, {"age": 1})
        self.assertEqual(folded(web), node_web({}, {"age": 1}))

    def test_folding_twice(self):
        chance = random.Random(10)
        for _ in range(60):
            web = some_web(chance, chance.randrange(1, 8), old=chance.random() < 0.5)
            once = folded(web)
            self.assertEqual(len(once), len(classes(web)))
            self.assertEqual(folded(once), once)
            ranks = Ranks(once, once)
            self.assertEqual(list(ranks), [(x, x) for x in range(len(once))])
            self.assertIn((web.here, once.here), Ranks(web, once))
            manners = Manners("old") if web.old is not None else Manners()
            client = some_client(chance, 12, manners)
            self.assertIsNone(first_difference(client, web, once))

    def test_home_webs(self):
        web = town_web()
        self.assertEqual(folded(web), web)
        self.assertIsNone(fault(folded(web)))


if __name__ == "__main__":
    unittest.main()
