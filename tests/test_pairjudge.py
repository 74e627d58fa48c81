"""[7.10], [8.11]: the judge of tables."""

import random
import unittest

from tests.drawn import drawn_house, drawn_row
from tests.plainstandings import plain_steps
from tests.rowsamples import staying_row, town_row
from tests.samples import any_values, node_house, raised
from waypairs.closure import Closure
from waypairs.errors import BadPaper, TooLarge
from waypairs.manners import Manners
from waypairs.oneway import Lens
from waypairs.pairjudge import closed_fault, cost_bound, quiet_fault
from waypairs.rowrings import ring_of
from waypairs.rows import Row
from waypairs.standings import told_by
from waypairs.travels import Travel
from waypairs.verdicts import judge

NONE, ASK, OLD, SET, ASK_OLD, ASK_SET, OLD_SET, ALL = Manners.every()
ROW = town_row({("Root", "a"): "new", ("Root", "ice"): "stays", ("Root", "tag"): "goes"})
LENS = Lens(ROW)
TABLE = Closure(LENS).table()
START = LENS.start


class Judges(unittest.TestCase):
    def fault(self, table, expected, row=ROW):
        """Checks what all three say of a list that is no closed table."""
        given = list(table)
        self.assertEqual(closed_fault(row=row, table=table), expected)
        for manners in (NONE, ALL):
            self.assertEqual(quiet_fault(row=row, table=table, manners=manners), expected)
            raised(BadPaper, cost_bound, row, table, manners)
        self.assertEqual(table, given)


class TestClosedFault(Judges):
    def test_own_tables(self):
        for row in (ROW, staying_row(2), Row([Travel(node_house())] * 4)):
            table = Closure(Lens(row)).table()
            self.assertIsNone(closed_fault(row, table))
            self.assertIsNone(closed_fault(row, table[::-1]))
        self.assertIsNone(closed_fault(ROW, judge(ROW).table()))

    def test_greater_and_more_standings(self):
        # The costs behind the start may be less than the least ones, and more standings than the reached ones may stand.
        self.assertIsNone(closed_fault(ROW, [(standing, 0) for standing, _ in TABLE]))
        more = [("one", "Dot", (1,)), ("torn", "Leaf", (), (), (True,), (False,)), ("joined", "Leaf", (), (1,))]
        reached = [standing for standing, _ in TABLE]
        added = [(one, 10 ** 20) for one in more if one not in reached]
        self.assertEqual(len(added), 2)
        self.assertIsNone(closed_fault(ROW, added + TABLE))

    def test_wrong_entries(self):
        for value in any_values() + [START, (START,), (START, 0, 0), [START, 0], (START, "0"), (START, -1),
                                     (START, False), (START, True), (list(START), 0), (("one", "Root", (2,)), 0),
                                     (("one", "Root"), 0), (0, START), ((START, 0), 0)]:
            self.fault([value, *TABLE], 0)
            self.fault([*TABLE, value], len(TABLE))
            self.fault([TABLE[1], value, None, *TABLE], 1)

    def test_doubled_standings(self):
        self.fault([*TABLE, TABLE[3]], len(TABLE))
        self.fault([*TABLE, (TABLE[3][0], 50)], len(TABLE))
        self.fault([TABLE[0], TABLE[0]], 1)

    def test_the_start(self):
        self.fault([], -1)
        self.fault(TABLE[1:], -1)
        for cost in (1, 2, 10 ** 30):
            self.fault([(START, cost), *TABLE[1:]], -1)
        self.fault([TABLE[2]], -1)

    def test_what_follows(self):
        costs = dict(TABLE)
        for at, (standing, cost) in list(enumerate(TABLE))[1:]:
            less = [entry for entry in TABLE if entry[0] != standing]
            befores = [place for place, (one, _) in enumerate(less)
                       if standing in [other for other, _ in plain_steps(LENS, one)]]
            self.fault(less, befores[0])
            dear = [(one, cost + 1 if one == standing else costs[one]) for one, _ in TABLE]
            befores = [place for place, (one, other) in enumerate(dear)
                       if any(dict(dear)[two] > other + more for two, more in plain_steps(LENS, one))]
            self.fault(dear, befores[0])

    def test_endless_rows(self):
        row = Row([Travel(node_house(), fates={("Node", "all"): "new"})])
        self.assertIsNotNone(ring_of(Lens(row)))
        self.assertIsNone(closed_fault(row, Closure(Lens(row)).table()))

    def test_it_searches_for_nothing(self):
        row = staying_row(6)
        raised(TooLarge, Closure, Lens(row))
        self.fault([(Lens(row).start, 0)], 0, row)


class TestQuietFault(unittest.TestCase):
    def test_each_set(self):
        for manners in Manners.every():
            told = [at for at, (standing, _) in enumerate(TABLE)
                    if any(least.within(manners) for least in told_by(LENS, standing))]
            self.assertEqual(quiet_fault(ROW, TABLE, manners), told[0] if told else None)
            self.assertEqual(quiet_fault(ROW, TABLE, manners) is None, judge(ROW).quiet(manners))
        self.assertEqual([quiet_fault(ROW, TABLE, one) is None for one in (NONE, OLD, ASK, SET, ASK_OLD)],
                         [True, True, False, False, False])

    def test_a_standing_that_is_not_reached(self):
        row = town_row()
        table = Closure(Lens(row)).table()
        self.assertIsNone(quiet_fault(row, table, ALL))
        lost = [*table, (("one", "Leaf", ()), 9)]
        self.assertIsNone(closed_fault(row, lost))
        self.assertEqual(quiet_fault(row, lost, ASK_OLD), len(table))
        self.assertIsNone(quiet_fault(row, lost, ASK_SET))


class TestCostBound(unittest.TestCase):
    def test_each_set(self):
        for manners in Manners.every():
            told = [cost for standing, cost in TABLE if any(least.within(manners) for least in told_by(LENS, standing))]
            self.assertEqual(cost_bound(row=ROW, table=TABLE, manners=manners), min(told, default=None))
            self.assertEqual(cost_bound(ROW, TABLE, manners), judge(ROW).cost(manners))

    def test_costs_of_the_table(self):
        table = [(standing, 0) for standing, _ in TABLE]
        self.assertEqual([cost_bound(ROW, table, one) for one in (NONE, ASK, ALL)], [None, 0, 0])
        table = TABLE + [(("one", "Leaf", ()), 1)]
        self.assertEqual(("one", "Leaf", ()) in dict(TABLE), True)
        raised(BadPaper, cost_bound, ROW, table, ASK)

    def test_drawn(self):
        chance = random.Random(811)
        count = 0
        for _ in range(40):
            row = drawn_row(chance, drawn_house(chance), chance.randrange(1, 4), saving=0.3)
            try:
                table = Closure(Lens(row)).table()
            except TooLarge:
                continue
            if len(table) < 600:
                chance.shuffle(table)
                self.assertIsNone(closed_fault(row, table))
                for manners in Manners.every():
                    found = quiet_fault(row, table, manners)
                    self.assertEqual(found is None, cost_bound(row, table, manners) is None)
                    count += found is None
        self.assertGreater(count, 10)


if __name__ == "__main__":
    unittest.main()
