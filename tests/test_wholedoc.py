"""What the document promises over the whole program: [7.9] also for closed, mended and healed rows, [10.5], names."""

import random
import unittest

from tests.drawn import drawn_home, drawn_house, drawn_row, drawn_travel
from tests.plain import some_client
from tests.rowsamples import TOWN, check_example, copy, renamed
from tests.samples import link, mark
from waypairs.clientrun import first_difference, run
from waypairs.clients import cut
from waypairs.comparejudge import judge_comparer, right_comparer, wrong_result
from waypairs.comparers import Comparer
from waypairs.errors import BadChange, Endless, TooLarge
from waypairs.heirs import closed, judge_open
from waypairs.journeys import ideal, journey
from waypairs.kinds import House, Kind
from waypairs.manners import Manners
from waypairs.manysets import Profile, least_telling
from waypairs.matching import alike
from waypairs.matrix import Atlas, there_and_back
from waypairs.mends import Change, least_mends, mended
from waypairs.parting import parting, parting_lines
from waypairs.rows import Row
from waypairs.rules import is_home
from waypairs.travels import RULES, SLOT_FATES, Travel
from waypairs.verdicts import judge

NONE, ASK, OLD, SET, ASK_OLD, ASK_SET, OLD_SET, ALL = Manners.every()


class Promises(unittest.TestCase):
    def setUp(self):
        self.quiet = 0
        self.told = 0

    def check(self, chance, row, webs=3):
        """Checks that sets for which a row is quiet never tell on drawn webs, and that examples always do."""
        try:
            verdict = judge(row)
        except TooLarge:
            return None
        if verdict.word == "endless":
            return verdict
        for manners in Manners.every():
            if verdict.tells(manners):
                check_example(self, row, verdict.example(manners), manners, verdict.cost(manners))
                self.told += 1
        for _ in range(webs):
            web = drawn_home(chance, row.home, chance.choice([2, 4, 7]), marks=chance.choice([1, 3]))
            try:
                pair = journey(row, web).pair()
            except (Endless, TooLarge):
                continue
            self.check_pair(chance, verdict, pair, ideal(web))
        return verdict

    def check_pair(self, chance, verdict, pair, best):
        for manners in Manners.every():
            if not verdict.quiet(manners):
                continue
            self.assertTrue(alike(pair, best, manners))
            fields = [field.name for kind in pair.house.names for field in pair.house.fields_of(kind)] or ["x"]
            client = some_client(chance, 12, manners, fields=fields)
            self.assertIsNone(first_difference(client, pair, best))
            self.quiet += 1


class TestRows(Promises):
    def drawn(self, chance, *kinds):
        fates = chance.choice([("goes",), ("goes", "new"), ("goes", "named"), ("goes", "named"),
                               ("goes", "new", "stays", "lost", "named")])
        return drawn_row(chance, drawn_house(chance, with_kinds=kinds), chance.randrange(1, 4),
                         saving=chance.choice([0, 0.3]), fates=fates)

    def test_closed_rows(self):
        chance = random.Random(1)
        for _ in range(40):
            row = self.drawn(chance, "Base")
            verdict = self.check(chance, closed(row))
            if verdict is not None:
                self.assertEqual(Profile.of(verdict), Profile.of(judge_open(row)))
        self.assertGreater(min(self.quiet, self.told), 40)

    def test_mended_rows(self):
        chance = random.Random(2)
        mends = 0
        while mends < 25:
            row = self.drawn(chance, *chance.choice([(), ("Tag",), ("Froz", "Leaf")]))
            pool = []
            for _ in range(3):
                travel = chance.randrange(1, row.size + 1)
                kind, field, _ = chance.choice(row[travel].table())
                pool.append(Change(travel, kind, field, chance.choice(RULES if field is None else SLOT_FATES)))
            try:
                for manners in (NONE, ASK, ALL):
                    for lot in least_mends(row, pool, manners)[:2]:
                        if lot:
                            verdict = self.check(chance, mended(row, [pool[at] for at in lot]))
                            self.assertTrue(verdict.quiet(manners))
                            mends += 1
            except (BadChange, TooLarge):
                continue
        self.assertGreater(min(self.quiet, self.told), 30)

    def test_healed_rows(self):
        chance = random.Random(3)
        healed = 0
        for _ in range(60):
            house = drawn_house(chance, with_kinds=("Tag",))
            names = {"a": Travel(house), "b": drawn_travel(chance, house, fates=("goes", "named", "named")),
                     "c": drawn_travel(chance, house, fates=("goes", "named"))}
            atlas = Atlas(house, names)
            try:
                runs = [one for one, _ in atlas.healed(ALL)] + [one for one, _ in atlas.healed(OLD)]
            except TooLarge:
                continue
            for one in runs[:3]:
                self.check(chance, atlas.row_named(one))
                healed += 1
        small = Atlas(TOWN, {"right": copy(), "copies": copy({("Root", "tag"): "goes"})})
        for one, _ in small.healed(ALL, 3):
            self.check(chance, small.row_named(one))
            healed += 1
        self.assertGreater(min(self.quiet, healed), 3)

    def test_editions_there_and_back(self):
        def house(*marks):
            return House("Root", [Kind("Root", [*marks, link("a", "Leaf"), link("b", "Root")]), Kind("Leaf", [mark("m")])])
        chance = random.Random(4)
        houses = [house(mark("x", was=["y"])), house(mark("y", was=["x"])), house(), house(mark("x", default=1))]
        for writer in houses:
            for reader in houses:
                self.check(chance, there_and_back(writer, reader))
        self.assertGreater(min(self.quiet, self.told), 40)


class TestOneByOne(unittest.TestCase):
    """[10.5]: a row of copying travels told one by one."""

    def test_drawn(self):
        chance = random.Random(105)
        applied = silent = 0
        for _ in range(250):
            house = drawn_house(chance, with_kinds=chance.choice([("Tag",), (), ("Froz", "Leaf")]))
            fates = chance.choice([("goes",), ("goes", "named"), ("goes", "new"), ("goes", "stays", "named")])
            row = drawn_row(chance, house, chance.randrange(2, 5), saving=0, fates=fates)
            try:
                whole = judge(row)
                single = [judge(Row([travel])) for travel in row]
            except TooLarge:
                continue
            named = any(value == "named" for travel in row.travels[1:] for _, _, value in travel.table())
            for manners in Manners.every():
                if all(one.quiet(manners) for one in single):
                    if "old" in manners or len(manners) == 0 or not named:
                        self.assertTrue(whole.quiet(manners))
                        applied += 1
                    else:
                        silent += 1
        self.assertGreater(applied, 200)
        self.assertGreater(silent, 0)

    def test_where_it_does_not_hold(self):
        # A thing that was copied by one of two ways is found by name on the other one.
        house = House("Root", [Kind("Root", [link("a", "Tag"), link("b", "Tag")]),
                               Kind("Tag", [mark("k"), mark("n")], key="k", registered=True)])
        first = Travel(house)
        second = Travel(house, fates={("Root", "b"): "named"})
        singles = [least_telling(judge(Row([one]))) for one in (first, second)]
        self.assertEqual(singles[0], [ASK_OLD, OLD_SET])
        self.assertIn(ASK, singles[1])
        self.assertTrue(judge(Row([first, second])).tells(ASK))


class TestOtherNames(unittest.TestCase):
    """The same house with other names has the same verdict."""

    def renamed_row(self, row, kinds, fields):
        houses = [renamed(house, kinds, fields) for house in row.houses()]
        travels = []
        for at, travel in enumerate(row):
            chosen = {(kinds[kind], fields[field]): value for kind, field, value in travel.table() if field is not None}
            rules = {kinds[kind]: value for kind, field, value in travel.table() if field is None}
            unheard = {kinds[kind]: travel.unheard(kind) for kind in travel.source.names
                       if travel.source.lets_heirs(kind)}
            travels.append(Travel(houses[at], fates=chosen, rules=rules, unheard=unheard,
                                  reader=houses[at + 1] if travel.is_saving else None))
        return Row(travels)

    def test_drawn(self):
        chance = random.Random(106)
        count = 0
        for _ in range(60):
            row = drawn_row(chance, drawn_house(chance), chance.randrange(1, 4), saving=0.3)
            names = [name for house in row.houses() for kind in house.names for field in house.fields_of(kind)
                     for name in (field.name, *field.was)]
            letters = list("abcdefghijklmnopqrstuvwxyz")
            chance.shuffle(letters)
            fields = {name: "f" + letter for name, letter in zip(sorted(set(names)), letters)}
            chance.shuffle(letters)
            kinds = {name: "K" + letter for name, letter in zip(row.home.names, letters)}
            other = self.renamed_row(row, kinds, fields)
            try:
                verdict, again = judge(row), judge(other)
            except TooLarge:
                continue
            self.assertEqual(again.word, verdict.word)
            self.assertEqual([(kinds[kind], name, cost, told) for name, kind, cost, told in verdict.faults()],
                             [(kind, name, cost, told) for name, kind, cost, told in again.faults()])
            self.assertEqual([cost for _, cost in verdict.table()], [cost for _, cost in again.table()])
            for manners in (NONE, ASK):
                one = judge_comparer(Comparer(row.home), manners)
                two = judge_comparer(Comparer(other.home), manners)
                self.assertEqual([(kinds[cause.kind], cause.why, cause.size) for cause in one.causes()],
                                 [(cause.kind, cause.why, cause.size) for cause in two.causes()])
            count += 1
        self.assertGreater(count, 40)


class TestPartsTogether(unittest.TestCase):
    def test_partings_of_pairs(self):
        """[3.9], [3.11], [2.7]: what a row does to a web is told just by the sets for which there is a parting."""
        chance = random.Random(107)
        parted = 0
        for _ in range(80):
            row = drawn_row(chance, drawn_house(chance), chance.randrange(1, 4), saving=0.2)
            web = drawn_home(chance, row.home, 5, marks=2)
            try:
                pair, best = journey(row, web).pair(), ideal(web)
            except (Endless, TooLarge):
                continue
            for manners in Manners.every():
                try:
                    client = parting(pair, best, manners)
                except TooLarge:
                    continue
                self.assertEqual(client is None, alike(pair, best, manners))
                if client is not None:
                    parted += 1
                    self.assertEqual((first_difference(client, pair, best), len(client)),
                                     (len(client) - 1, parting_lines(pair, best, manners)))
                    whole, short = run(client, pair), run(cut(client, len(client) - 1), pair)
                    self.assertEqual(whole[-1], short[-1])
                    self.assertTrue(judge(row).tells(manners))
        self.assertGreater(parted, 50)

    def test_right_comparers_of_what_came_back(self):
        """[9.10]: a right comparer tells the web that came back from the one at home just as the clients do."""
        chance = random.Random(109)
        count = 0
        for _ in range(60):
            row = drawn_row(chance, drawn_house(chance), chance.randrange(1, 3), saving=0)
            web = drawn_home(chance, row.home, 6, marks=2)
            try:
                came = journey(row, web).came()
            except (Endless, TooLarge):
                continue
            for manners in (NONE, ASK, SET, ASK_SET):
                comparer = right_comparer(row.home, manners)
                # Two copies of a thing with a key make it no home web.
                if comparer is not None and is_home(came):
                    self.assertIsNone(wrong_result(comparer, manners, web, came, most=20000))
                    count += 1
        self.assertGreater(count, 60)


if __name__ == "__main__":
    unittest.main()
