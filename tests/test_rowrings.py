"""[7.3]: rings of rows."""

import random
import unittest

from tests.drawn import drawn_home, drawn_house, drawn_row
from tests.samples import link, many, mark, node_house, raised
from waypairs.errors import Endless, TooLarge
from waypairs.journeys import journey
from waypairs.kinds import House, Kind
from waypairs.oneway import Lens
from waypairs.rowrings import ring_of, ring_web
from waypairs.rows import Row
from waypairs.rules import is_home
from waypairs.travels import Travel

NODE = node_house()
HOUSE = House("Root", [
    Kind("Root", [mark("m"), link("a", "Part"), link("leaf", "Leaf")]),
    Kind("Part", [mark("p", default=2), mark("q"), many("b", "Other"), link("root", "Root")]),
    Kind("Other", [link("c", "Part"), link("d", "Other")]),
    Kind("Leaf", []),
])
COPY = Travel(HOUSE)


def ring_in(*travels):
    return ring_of(Lens(Row(list(travels))))


class Rings(unittest.TestCase):
    def check(self, row, travel):
        """Checks that a row is endless with this travel; the ring."""
        lens = Lens(row)
        ring = ring_of(lens)
        self.assertEqual(ring.travel, travel)
        self.check_steps(lens, ring)
        web = ring_web(lens, ring)
        self.assertTrue(is_home(web))
        self.assertEqual(len(web), len(ring.lead) + len(ring.ring))
        marks = [web[thing, name] for thing in range(len(web)) for name in web.house.marks_of(web.kind_of(thing))]
        self.assertEqual(len(set(marks)), len(marks))
        way = [(field, 0 if web.house.field_of(web.kind_of(thing), field).mode == "list" else None)
               for thing, (field, _) in enumerate(ring.lead + ring.ring)]
        self.assertEqual([web.kind_of(web.thing_at(way[:count])) for count in range(1, len(way) + 1)],
                         [kind for _, kind in ring.lead + ring.ring])
        self.assertEqual(web.thing_at(way), web.thing_at(way[:len(ring.lead)]))
        self.assertEqual(raised(Endless, journey, row, web).travel, travel)
        if travel > 1:
            self.assertEqual(len(journey(row.cut(travel - 1), web).roots), travel)
        return ring

    def check_steps(self, lens, ring):
        """Checks the lead and the ring as the document tells them."""
        home, k = lens.row.home, ring.travel
        self.assertIs(type(ring.lead), list)
        self.assertIs(type(ring.ring), list)
        kind = home.root
        for field, other in ring.lead + ring.ring:
            self.assertIn(lens.fates(kind, field)[k - 1], ("goes", "new"))
            self.assertTrue(home.admits(home.field_of(kind, field).target, other))
            kind = other
        begin = ring.lead[-1][1] if ring.lead else home.root
        self.assertEqual(kind, begin)
        kinds = [begin] + [kind for _, kind in ring.ring]
        self.assertGreater(len(ring.ring), 0)
        news = [lens.fates(kind, field)[k - 1] == "new" for kind, (field, _) in zip(kinds, ring.ring)]
        self.assertTrue(any(news) or all(lens.rules(kind)[k - 1] == "never" for kind in kinds))
        led = [home.root] + [kind for _, kind in ring.lead + ring.ring[:-1]]
        self.assertEqual(len(set(led)), len(led))


class TestRings(Rings):
    def test_no_ring(self):
        self.assertIsNone(ring_in(COPY))
        self.assertIsNone(ring_in(Travel(HOUSE, rules={"Part": "never", "Leaf": "never"}), COPY))
        self.assertIsNone(ring_in(Travel(HOUSE, fates={("Root", "leaf"): "new"})))
        self.assertIsNone(ring_of(Lens(Row([Travel(NODE)] * 4))))

    def test_a_ring_by_new(self):
        ring = self.check(Row([Travel(NODE, fates={("Node", "all"): "new"})]), 1)
        self.assertEqual((ring.lead, ring.ring), ([], [("all", "Node")]))
        ring = self.check(Row([COPY, Travel(HOUSE, fates={("Part", "b"): "new"})]), 2)
        self.assertEqual((ring.lead, ring.ring), ([("a", "Part")], [("b", "Other"), ("c", "Part")]))
        ring = self.check(Row([Travel(HOUSE, fates={("Other", "c"): "new"})]), 1)
        self.assertEqual((ring.lead, ring.ring), ([("a", "Part")], [("b", "Other"), ("c", "Part")]))
        ring = self.check(Row([Travel(HOUSE, fates={("Part", "root"): "new"})]), 1)
        self.assertEqual((ring.lead, ring.ring), ([], [("a", "Part"), ("root", "Root")]))
        ring = self.check(Row([Travel(HOUSE, fates={("Other", "d"): "new"})]), 1)
        self.assertEqual((ring.lead, ring.ring), ([("a", "Part"), ("b", "Other")], [("d", "Other")]))

    def test_a_ring_of_kinds_that_are_never_known(self):
        ring = self.check(Row([Travel(HOUSE, rules={"Root": "never", "Part": "never"})]), 1)
        self.assertEqual((ring.lead, ring.ring), ([], [("a", "Part"), ("root", "Root")]))
        ring = self.check(Row([COPY, COPY, Travel(HOUSE, rules={"Other": "never"})]), 3)
        self.assertEqual((ring.lead, ring.ring), ([("a", "Part"), ("b", "Other")], [("d", "Other")]))

    def test_a_way_round_by_a_kind_that_is_known(self):
        house = House("Root", [
            Kind("Root", [link("a", "Known"), link("b", "Other")]), Kind("Known", [link("c", "Root")]),
            Kind("Other", [link("d", "Known"), link("e", "Third")]), Kind("Third", [link("f", "Other")])])
        rules = {"Root": "never", "Other": "never", "Third": "never"}
        ring = self.check(Row([Travel(house, rules=rules)]), 1)
        self.assertEqual((ring.lead, ring.ring), ([("b", "Other")], [("e", "Third"), ("f", "Other")]))
        self.assertIsNone(ring_in(Travel(house, rules={"Root": "never", "Other": "never"})))
        ring = self.check(Row([Travel(house, rules=rules, fates={("Known", "c"): "new"})]), 1)
        self.assertIn("Known", [kind for _, kind in ring.ring])

    def test_the_first_travel(self):
        new = Travel(HOUSE, fates={("Part", "b"): "new"})
        never = Travel(HOUSE, rules={"Other": "never"})
        self.check(Row([new, never]), 1)
        self.check(Row([never, new, never]), 1)
        self.check(Row([COPY, never, new]), 2)
        self.check(Row([COPY, COPY, COPY, new]), 4)

    def test_where_the_walk_does_not_go(self):
        self.assertIsNone(ring_in(Travel(HOUSE, fates={("Part", "b"): "new", ("Root", "a"): "stays"})))
        self.assertIsNone(ring_in(Travel(HOUSE, fates={("Part", "b"): "new", ("Other", "c"): "stays"})))
        # A ring at home that the second travel walks although the first one let it stay.
        self.check(Row([Travel(HOUSE, fates={("Root", "a"): "stays"}), Travel(HOUSE, fates={("Part", "b"): "new"})]), 2)

    def test_a_row_that_loses_is_not_endless(self):
        new = {("Part", "b"): "new"}
        self.assertIsNone(ring_in(Travel(HOUSE, fates={**new, ("Root", "m"): "lost"})))
        self.assertIsNone(ring_in(Travel(HOUSE, fates=new), Travel(HOUSE, fates={("Root", "leaf"): "lost"})))
        # What is lost for no reached word is none that the row loses.
        stays = Travel(HOUSE, fates={("Root", "a"): "stays", ("Part", "p"): "lost"})
        self.check(Row([stays, Travel(HOUSE, fates=new)]), 2)

    def test_fields_of_other_editions(self):
        other = HOUSE.with_kinds([HOUSE.kind_named("Root"), Kind("Part", [
            mark("p", default=2), mark("q"), many("x", "Other", was=["b"]), link("root", "Root")]),
            *[HOUSE.kind_named(name) for name in ("Other", "Leaf")]])
        back = HOUSE.with_kinds([HOUSE.kind_named("Root"), Kind("Part", [
            mark("p", default=2), mark("q"), many("b", "Other", was=["x"]), link("root", "Root")]),
            *[HOUSE.kind_named(name) for name in ("Other", "Leaf")]])
        ring = self.check(Row([Travel(back, reader=other),
                               Travel(other, reader=back, fates={("Part", "x"): "new"})]), 2)
        self.assertEqual((ring.lead, ring.ring), ([("a", "Part")], [("b", "Other"), ("c", "Part")]))


class TestDrawn(Rings):
    def test_drawn(self):
        chance = random.Random(61)
        endless = ending = raising = 0
        for _ in range(400):
            row = drawn_row(chance, drawn_house(chance), chance.randrange(1, 5), saving=0.3,
                            fates=("goes", "new", "stays", "named"))
            lens = Lens(row)
            ring = ring_of(lens)
            loses = any(lens.broken(word) for word in lens.words())
            if ring is not None:
                self.assertFalse(loses)
                self.check(row, ring.travel)
                endless += 1
            for _ in range(2):
                web = drawn_home(chance, row.home, 6, different=True)
                try:
                    journey(row, web)
                    ending += ring is None and not loses
                except TooLarge:
                    continue
                except Endless as e:
                    raising += 1
                    self.assertTrue(loses or ring is not None and ring.travel <= e.travel)
        self.assertGreater(min(endless, ending, raising), 30)


if __name__ == "__main__":
    unittest.main()
