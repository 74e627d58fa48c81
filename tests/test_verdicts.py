"""[7.8], [7.9]: verdicts, and what they promise for all webs and clients."""

import random
import unittest

from tests.drawn import drawn_home, drawn_house, drawn_row
from tests.plainstandings import plain_closure
from tests.rowsamples import TOWN, check_example, copy, staying_row, town_row
from tests.samples import link, many, mark, node_house, raised
from waypairs.closure import Closure
from waypairs.errors import Endless, TooLarge
from waypairs.journeys import ideal, journey
from waypairs.kinds import House, Kind
from waypairs.manners import Manners
from waypairs.matching import alike, is_movable
from waypairs.oneway import Lens
from waypairs.refine import sight
from waypairs.rowrings import RowRing, ring_of
from waypairs.rows import Row
from waypairs.standings import fault
from waypairs.travels import Travel
from waypairs.verdicts import judge

NONE, ASK, OLD, SET, ASK_OLD, ASK_SET, OLD_SET, ALL = Manners.every()
EVERY = Manners.every()
NODE = node_house()
BOTH = [ASK, SET]
WITH_OLD = [ASK_OLD, OLD_SET]


def plain_faults(row):
    """The faults of a row by the document, from a plain search."""
    lens = Lens(row)
    house = row.home
    found = {}
    for standing, cost in plain_closure(row).items():
        word, kind = standing[0], standing[1]
        movable = house.is_movable(kind)
        name, told = None, None
        if word == "one":
            if lens.broken((kind, standing[2])):
                name, told = "lost", [NONE]
            elif (standing[2] == ()) != house.is_registered(kind):
                name, told = "shared" if standing[2] == () else "copied", [ASK_OLD] + [OLD_SET] * movable
        elif word in ("torn", "joined"):
            name, told = word, [ASK] + [SET] * movable
        elif kind == standing[3] and not house.is_leaf(kind):
            if any(memo and rule == "marks" for memo, rule in zip(standing[5], lens.rules(kind))):
                name, told = "merged", [NONE]
        if name is not None and cost < found.get((name, kind), (10 ** 9,))[0]:
            found[name, kind] = (cost, told)
    for grave in ("lost", "merged"):
        if any(name == grave for name, _ in found):
            found = {spot: found[spot] for spot in found if spot[0] == grave}
            break
    return [(name, kind, cost, told) for (name, kind), (cost, told) in
            sorted(found.items(), key=lambda one: (one[1][0], one[0][0], house.names.index(one[0][1])))]


class Verdicts(unittest.TestCase):
    def check(self, row):
        """Checks a verdict on a row that is not endless against a plain search; the verdict."""
        verdict = judge(row=row)
        self.assertEqual((verdict.row, verdict.word, verdict.ring), (row, "judged", None))
        faults = verdict.faults()
        self.assertEqual(faults, plain_faults(row))
        self.assertTrue(all(type(one) is tuple and type(one[3]) is list for one in faults))
        self.assertEqual(dict(verdict.table()), plain_closure(row))
        costs = [cost for _, cost in verdict.table()]
        self.assertEqual(costs, sorted(costs))
        for manners in EVERY:
            told = [cost for _, _, cost, sets in faults if any(one.within(manners) for one in sets)]
            self.assertIs(verdict.tells(manners=manners), bool(told))
            self.assertIs(verdict.quiet(manners=manners), not told)
            self.assertEqual(verdict.cost(manners=manners), min(told, default=None))
            if not told:
                self.assertIsNone(verdict.example(manners=manners))
        return verdict

    def faults(self, row, expected):
        verdict = self.check(row)
        self.assertEqual(verdict.faults(), expected)
        for manners in EVERY:
            if verdict.tells(manners):
                check_example(self, row, verdict.example(manners), manners, verdict.cost(manners))


class TestFaults(Verdicts):
    def test_right_copies(self):
        for count in range(1, 5):
            self.faults(Row([copy()] * count), [])
        self.faults(Row([Travel(NODE)]), [])
        self.faults(Row([Travel(TOWN, fates={("Root", "tag"): "stays"})]), [])

    def test_lost(self):
        self.faults(town_row({("Leaf", "n"): "lost"}), [("lost", "Leaf", 4, [NONE])])
        self.faults(town_row({("Node", "leaf"): "lost", ("Node", "leaves"): "lost"}, before=1),
                    [("lost", "Node", 2, [NONE])])
        self.faults(town_row({("Root", "tag"): "lost"}, behind=2), [("lost", "Root", 0, [NONE])])
        # All else is not given beside it.
        self.faults(town_row({("Leaf", "n"): "lost", ("Node", "m"): "lost"}, {"Node": "never", "Leaf": "marks"}),
                    [("lost", "Node", 2, [NONE]), ("lost", "Leaf", 4, [NONE])])
        self.faults(Row([copy({("Root", "a"): "stays", ("Root", "b"): "stays", ("Root", "all"): "stays"}),
                         copy({("Node", "m"): "lost"})]), [("lost", "Node", 2, [NONE])])

    def test_lost_by_another_edition(self):
        def house(first, second):
            return House("Root", [Kind("Root", [mark("m", default=2), first, second])])
        home = house(link("a", "Root", was=["y"]), link("b", "Root", was=["x"]))
        kept = house(link("x", "Root", was=["b"]), link("y", "Root", was=["a"]))
        swapped = house(link("x", "Root", was=["a"]), link("y", "Root", was=["b"]))
        self.faults(Row([Travel(home, reader=kept), Travel(kept, reader=home)]), [])
        self.faults(Row([Travel(home, reader=swapped), Travel(swapped, reader=home)]), [("lost", "Root", 0, [NONE])])
        other = House("Root", [Kind("Root", [link("a", "Root"), link("b", "Root")])])
        self.faults(Row([Travel(home, reader=other), Travel(other, reader=home)]), [("lost", "Root", 0, [NONE])])

    def test_merged(self):
        # Two ways part and come to two nodes.
        for rules in ({"Node": "marks"}, {"Node": "marks", "Leaf": "never"}):
            self.faults(town_row(None, rules), [("merged", "Node", 2, [NONE])])
        news = {("Root", "a"): "new", ("Root", "b"): "new"}
        self.faults(town_row(news, {"Node": "marks"}), [("merged", "Node", 2, [NONE])])
        verdict = self.check(town_row({**news, ("Root", "all"): "new"}, {"Node": "marks"}))
        self.assertNotIn("merged", [name for name, _, _, _ in verdict.faults()])
        # One way waits at a node.
        house = House("Root", [Kind("Root", [mark("m"), many("all", "Root")])])
        self.faults(Row([Travel(house, rules={"Root": "marks"})]), [("merged", "Root", 1, [NONE])])

    def test_shared(self):
        self.faults(town_row({("Node", "leaf"): "stays", ("Node", "leaves"): "stays", ("Ice", "leaf"): "stays"}),
                    [("shared", "Leaf", 4, WITH_OLD)])
        self.faults(town_row({("Root", "ice"): "stays", ("Root", "cube"): "stays"}), [
            ("shared", "Ice", 2, [ASK_OLD]), ("shared", "Leaf", 4, WITH_OLD), ("shared", "Dot", 4, [ASK_OLD]),
            ("torn", "Leaf", 4, BOTH)])
        self.faults(Row([Travel(NODE, fates={("Node", "next"): "stays", ("Node", "all"): "stays"})] * 2), [
            ("torn", "Node", 1, BOTH), ("shared", "Node", 2, WITH_OLD)])

    def test_copied(self):
        self.faults(town_row({("Root", "tag"): "goes"}), [("copied", "Tag", 2, WITH_OLD)])
        self.faults(town_row({("Root", "tag"): "new"}, before=2), [("copied", "Tag", 2, WITH_OLD)])
        self.faults(town_row({("Root", "tag"): "new"}, behind=1), [])
        house = House("Root", [Kind("Root", [link("tag", "Tag")]), Kind("Tag", [mark("k")], key="k", registered=True)])
        self.faults(Row([Travel(house)]), [("copied", "Tag", 2, [ASK_OLD])])

    def test_torn(self):
        self.faults(town_row({("Root", "a"): "new"}), [("torn", "Node", 2, BOTH), ("torn", "Leaf", 4, BOTH)])
        self.faults(town_row({("Node", "leaf"): "new"}, before=1, behind=1), [("torn", "Leaf", 4, BOTH)])
        self.faults(town_row(None, {"Leaf": "never"}), [("torn", "Leaf", 4, BOTH)])
        self.faults(town_row(None, {"Node": "never"}), [("torn", "Node", 2, BOTH)])
        house = House("Root", [Kind("Root", [link("a", "Leaf"), link("b", "Leaf")]), Kind("Leaf", [mark("m")])])
        self.faults(Row([Travel(house, rules={"Leaf": "never"})] * 3), [("torn", "Leaf", 2, BOTH)])
        # The way round a ring comes back to the thing where the other way waits.
        house = House("Root", [Kind("Root", [link("a", "Node")]), Kind("Node", [link("root", "Root")])])
        self.faults(Row([Travel(house, rules={"Root": "never"})]), [("torn", "Root", 2, BOTH)])

    def test_torn_things_that_nobody_can_change(self):
        house = House("Root", [Kind("Root", [link("a", "Ice"), link("b", "Ice")]),
                               Kind("Ice", [link("leaf", "Leaf"), link("dot", "Dot")], frozen=True),
                               Kind("Leaf", [mark("m")]), Kind("Dot", [])])
        self.faults(Row([Travel(house, rules={"Ice": "never"})]), [("torn", "Ice", 2, [ASK])])
        self.faults(Row([Travel(house, fates={("Root", "b"): "new"})]), [
            ("torn", "Ice", 2, [ASK]), ("torn", "Leaf", 4, BOTH), ("torn", "Dot", 4, [ASK])])

    def test_joined(self):
        house = House("Root", [Kind("Root", [link("a", "Leaf"), link("b", "Leaf")]), Kind("Leaf", [mark("m")])])
        self.faults(Row([Travel(house), Travel(house, rules={"Leaf": "marks"})]), [("joined", "Leaf", 2, BOTH)])
        house = House("Root", [Kind("Root", [link("a", "Leaf"), link("b", "Leaf")]),
                               Kind("Leaf", [mark("m")], frozen=True)])
        self.faults(Row([Travel(house, rules={"Leaf": "marks"})]), [("joined", "Leaf", 2, [ASK])])

    def test_the_order(self):
        house = House("Root", [
            Kind("Root", [link("z", "Zeb"), link("y", "Yak"), link("tag", "Tag"), link("leaf", "Leaf")]),
            Kind("Zeb", [mark("m")]), Kind("Yak", [mark("m")]), Kind("Tag", [mark("k")], key="k", registered=True),
            Kind("Leaf", [link("dot", "Dot")]), Kind("Dot", [])])
        stays = {("Root", "z"): "stays", ("Root", "y"): "stays", ("Leaf", "dot"): "stays"}
        self.faults(Row([Travel(house, fates=stays)]), [
            ("copied", "Tag", 2, [ASK_OLD]), ("shared", "Zeb", 2, WITH_OLD), ("shared", "Yak", 2, WITH_OLD),
            ("shared", "Dot", 4, [ASK_OLD])])


class TestSets(Verdicts):
    def test_rows_that_tell_for_each_set(self):
        leaf = House("Root", [Kind("Root", [link("a", "Leaf"), link("b", "Leaf"), link("tag", "Tag")]),
                              Kind("Leaf", [mark("m")]), Kind("Tag", [mark("k")], key="k", registered=True)])
        cold = House("Root", [Kind("Root", [link("a", "Leaf"), link("b", "Leaf")]),
                              Kind("Leaf", [mark("m")], frozen=True)])
        named = {("Root", "tag"): "named"}
        for row, told in [
                (Row([Travel(leaf, fates={**named, ("Leaf", "m"): "lost"})]), EVERY),
                (Row([Travel(leaf, fates=named, rules={"Leaf": "never"})]), [ASK, SET, ASK_OLD, ASK_SET, OLD_SET, ALL]),
                (Row([Travel(cold, rules={"Leaf": "never"})]), [ASK, ASK_OLD, ASK_SET, ALL]),
                (Row([Travel(leaf, fates={**named, ("Root", "a"): "stays", ("Root", "b"): "stays"})]),
                 [ASK_OLD, OLD_SET, ALL]),
                (Row([Travel(cold, fates={("Root", "a"): "stays", ("Root", "b"): "stays"})]), [ASK_OLD, ALL]),
                (Row([Travel(leaf)]), [ASK_OLD, ALL]),
                (Row([Travel(leaf, fates=named)]), [])]:
            verdict = self.check(row)
            self.assertEqual([manners for manners in EVERY if verdict.tells(manners)], told)
            for manners in told:
                check_example(self, row, verdict.example(manners), manners, verdict.cost(manners))

    def test_least_costs(self):
        house = House("Root", [Kind("Root", [link("a", "Ice"), link("b", "Ice"), link("node", "Node")]),
                               Kind("Ice", [], frozen=True), Kind("Node", [link("leaf", "Leaf")]),
                               Kind("Leaf", [mark("m")])])
        row = Row([Travel(house, fates={("Root", "b"): "new", ("Node", "leaf"): "stays"})])
        verdict = self.check(row)
        self.assertEqual([verdict.cost(manners) for manners in EVERY], [None, 2, None, None, 2, 2, 4, 2])
        self.assertEqual([verdict.example(manners).fault for manners in EVERY if verdict.tells(manners)],
                         ["torn", "torn", "torn", "shared", "torn"])


class TestEndlessAndLarge(Verdicts):
    def test_endless(self):
        for travels in ([Travel(NODE, fates={("Node", "all"): "new"})], [Travel(NODE), Travel(NODE, rules={
                "Node": "never"}), Travel(NODE, fates={("Node", "next"): "stays"})]):
            row = Row(travels)
            verdict = judge(row)
            self.assertEqual((verdict.row, verdict.word), (row, "endless"))
            self.assertIsInstance(verdict.ring, RowRing)
            expected = ring_of(Lens(row))
            self.assertEqual((verdict.ring.travel, verdict.ring.lead, verdict.ring.ring),
                             (expected.travel, expected.lead, expected.ring))
            self.assertEqual((verdict.faults(), verdict.table()), ([], []))
            for manners in EVERY:
                self.assertIs(verdict.tells(manners), True)
                self.assertIs(verdict.quiet(manners), False)
                self.assertIsNone(verdict.cost(manners))
                self.assertIsNone(verdict.example(manners))

    def test_a_row_that_loses_is_judged(self):
        verdict = self.check(Row([Travel(NODE, fates={("Node", "all"): "new", ("Node", "age"): "lost"})]))
        self.assertEqual(verdict.faults(), [("lost", "Node", 0, [NONE])])

    def test_too_many_standings(self):
        self.assertEqual(raised(TooLarge, judge, staying_row(6)).count, 6000)
        self.assertEqual(raised(TooLarge, judge, staying_row(12)).count, 6000)
        self.assertGreater(len(self.check(staying_row(3)).table()), 1000)

    def test_nothing_more_is_judged_of_an_endless_row(self):
        row = staying_row(6)
        endless = Row([*row.travels[:3], row[4].changed("Aa", "a", "new")])
        raised(TooLarge, Closure, Lens(endless))
        verdict = judge(endless)
        self.assertEqual((verdict.word, verdict.ring.travel, verdict.table()), ("endless", 4, []))


class TestNewLists(Verdicts):
    def test_told_lists_are_changed_afterwards(self):
        row = town_row({("Root", "tag"): "goes"})
        verdict = judge(row)
        faults = verdict.faults()
        table = verdict.table()
        faults[0][3].clear()
        faults.clear()
        table.clear()
        verdict.example(ASK_OLD).client.clear()
        verdict.example(ASK_OLD).one_way.append(1)
        self.assertEqual(verdict.faults(), [("copied", "Tag", 2, WITH_OLD)])
        self.assertEqual(dict(verdict.table()), plain_closure(row))
        check_example(self, row, verdict.example(ASK_OLD), ASK_OLD, 2)

    def test_the_same_asked_twice(self):
        row = town_row({("Root", "a"): "new"}, {"Leaf": "marks"})
        first, second = judge(row), judge(row)
        self.assertFalse(first == second)
        self.assertEqual((first.faults(), first.table()), (second.faults(), second.table()))
        for manners in EVERY:
            if first.tells(manners):
                for other in (first.example(manners), second.example(manners)):
                    one = first.example(manners)
                    self.assertEqual((one.web, one.client, one.one_way, one.other_way, one.fault, one.manners),
                                     (other.web, other.client, other.one_way, other.other_way, other.fault,
                                      other.manners))


class TestPromise(Verdicts):
    """What a verdict promises, on drawn webs."""

    def drawn(self, chance):
        house = drawn_house(chance, with_kinds=chance.choice([(), ("Tag",), ("Froz", "Leaf")]))
        fates = chance.choice([("goes",), ("goes", "new"), ("goes", "named"), ("goes", "stays", "named"),
                               ("goes", "new", "stays", "lost", "named")])
        return drawn_row(chance, house, chance.randrange(1, 5), saving=chance.choice([0, 0.3]), fates=fates)

    def test_plain_search_and_examples(self):
        chance = random.Random(711)
        found = {}
        for _ in range(80):
            row = self.drawn(chance)
            try:
                if judge(row).word == "endless":
                    continue
            except TooLarge:
                continue
            verdict = self.check(row)
            for manners in EVERY:
                if verdict.tells(manners):
                    example = verdict.example(manners)
                    check_example(self, row, example, manners, verdict.cost(manners))
                    found[example.fault] = True
        self.assertGreaterEqual(set(found), {"lost", "merged", "copied", "torn", "joined"})

    def test_quiet_sets_never_tell(self):
        chance = random.Random(712)
        quiet = costly = 0
        for _ in range(90):
            row = self.drawn(chance)
            try:
                verdict = judge(row)
            except TooLarge:
                continue
            if verdict.word == "endless":
                continue
            for _ in range(4):
                web = drawn_home(chance, row.home, chance.choice([2, 4, 7]), marks=chance.choice([1, 3]))
                try:
                    made = journey(row, web)
                except (Endless, TooLarge):
                    continue
                for manners in EVERY:
                    if verdict.quiet(manners):
                        self.assertTrue(alike(made.pair(), ideal(web), manners))
                        quiet += 1
                costly += self.check_costs(verdict, made, web)
        self.assertGreater(quiet, 300)
        self.assertGreater(costly, 100)

    def check_costs(self, verdict, made, web):
        """Checks that no two ways of a web show a fault with too few steps; how many ways do show one."""
        lens = Lens(verdict.row)
        names = {fault(lens, standing) for standing, _ in verdict.table()}
        pair = made.pair()
        numbers = made.pair_numbers()
        ways = [(way, web.thing_at(way), pair.thing_at(way)) for way in web.ways(25)]
        if "lost" in names:
            if "merged" in names:
                return 0
            shown = [way for way, one, came in ways if came is None or sight(pair, came) != sight(web, one)]
            self.assertTrue(all(2 * len(way) >= verdict.cost(NONE) for way in shown))
            return len(shown)
        if "merged" in names:
            return 0
        count = 0
        for at, (way, one, came) in enumerate(ways):
            kind = web.kind_of(one)
            if (numbers[came] == one) != web.house.is_registered(kind):
                count += self.at_least(verdict, 2 * len(way), [ASK_OLD] + [OLD_SET] * web.house.is_movable(kind))
            for other, two, came_too in ways[:at]:
                if (one == two) != (came == came_too):
                    told = [ASK] + [SET] * is_movable(web, one, NONE)
                    count += self.at_least(verdict, len(way) + len(other), told)
        return count

    def at_least(self, verdict, steps, told):
        """Checks that these sets tell, with a least cost of at most so many steps."""
        for manners in told:
            self.assertLessEqual(verdict.cost(manners), steps)
        return 1


if __name__ == "__main__":
    unittest.main()
