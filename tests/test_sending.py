"""[5.6]: travels by text."""

import random
import unittest

from tests.drawn import drawn_edition, drawn_home, drawn_house, drawn_travel
from tests.samples import chain, link, many, mark, node_house, raised, town_web
from waypairs.errors import BadSaved, BadTravel, BadWeb, Endless, TooLarge
from waypairs.heapwebs import web_of
from waypairs.kinds import House, Kind
from waypairs.reading import brought
from waypairs.registers import Register
from waypairs.rules import fault
from waypairs.saved import saved, sent
from waypairs.travels import Travel
from waypairs.walk import Heap, Walk
from waypairs.webs import Web, met_from

NODE = node_house()
TAG = Kind("Tag", [mark("code"), mark("tone")], key="code", registered=True)
WRITER = House("Root", [
    Kind("Root", [mark("m"), link("leaf", "Leaf"), many("tags", "Tag"), link("tag", "Tag"), many("all", "Leaf")]),
    Kind("Leaf", [mark("a", default=3), link("back", "Root")]),
    TAG,
])
READER = House("Root", [
    Kind("Root", [many("names", "Tag", was=["tags"]), mark("n", default=6), link("leaf", "Leaf")]),
    Kind("Leaf", [mark("b", default=3, was=["a"]), link("back", "Leaf")]),
    TAG,
])


def writer_web():
    return Web(WRITER, [("Root", {"m": 9, "leaf": 1, "tags": [2, 3, 2], "tag": 4, "all": [1, 5]}),
                        ("Leaf", {"a": 1, "back": 0}), ("Tag", {"code": 8, "tone": 80}), ("Tag", {"code": -1}),
                        ("Tag", {"code": 0}), ("Leaf", {"a": 2})])


def travelled(travel, web):
    """The saved text of the web of level 1."""
    heap = Heap(web)
    root = Walk(heap, travel).finish()
    return saved(web_of(heap, travel.target, met_from(heap, root)))


class TestSent(unittest.TestCase):
    def test_all_fields_of_the_source(self):
        travel = Travel(WRITER, reader=READER, fates={("Root", "tags"): "named", ("Leaf", "back"): "lost"})
        text = sent(travel=travel, web=writer_web())
        self.assertEqual(text, "\n".join([
            "0 Root m=9 leaf=#1 tags=[Tag@8,Tag@-1,Tag@8] tag=#2 all=[#1,#3]", "1 Leaf a=1 back=-",
            "2 Tag code=0 tone=0", "3 Leaf a=2 back=-"]))
        web = brought(travel=travel, text=text, known=Register(writer_web()))
        self.assertEqual(web.house, READER)
        self.assertEqual(web.things(), [
            ("Root", {"names": [4, 5, 4], "n": 6, "leaf": 1}), ("Leaf", {"b": 1, "back": None}),
            ("Tag", {"code": 0, "tone": 0}), ("Leaf", {"b": 2, "back": None}), ("Tag", {"code": 8, "tone": 80}),
            ("Tag", {"code": -1, "tone": 0})])
        self.assertEqual(saved(web), travelled(travel, writer_web()))

    def test_fates_and_rules(self):
        travel = Travel(WRITER, reader=WRITER, fates={("Root", "all"): "new", ("Root", "m"): "lost",
                                                      ("Leaf", "back"): "lost"}, rules={"Leaf": "never"})
        self.assertEqual(sent(travel, writer_web()), "\n".join([
            "0 Root m=0 leaf=#1 tags=[#2,#3,#2] tag=#4 all=[#5,#6]", "1 Leaf a=1 back=-", "2 Tag code=8 tone=80",
            "3 Tag code=-1 tone=0", "4 Tag code=0 tone=0", "5 Leaf a=1 back=-", "6 Leaf a=2 back=-"]))

    def test_a_tag_that_is_named_and_goes(self):
        web = writer_web().with_value(0, "tag", 2)
        web = web.with_value(0, "tags", [2, 3, 2, 4])
        travel = Travel(WRITER, reader=READER, fates={("Root", "tag"): "named"})
        text = sent(travel, web)
        self.assertEqual(text.split("\n")[0], "0 Root m=9 leaf=#1 tags=[#2,#3,#2,#4] tag=Tag@8 all=[#1,#5]")
        self.assertEqual(saved(brought(travel, text, Register(web))), travelled(travel, web))

    def test_errors_in_their_order(self):
        saving, copying = Travel(NODE, reader=NODE), Travel(NODE)
        good, bad = chain(NODE, "Node", "next", 2), chain(NODE, "Node", "next", 2).rooted(1)
        for web in (good, bad, town_web()):
            error = raised(BadTravel, sent, copying, web)
            self.assertEqual((error.kind, error.field), (None, None))
        self.assertEqual(raised(BadWeb, sent, saving, town_web()).thing, -1)
        self.assertEqual(raised(BadWeb, sent, saving, town_web().rooted(1)).thing, -1)
        for wrong in (bad, good.rooted(0, old=1), chain(NODE, "Node", "next", 61)):
            self.assertEqual(raised(BadWeb, sent, saving, wrong).thing, fault(wrong)[1])
        ring = chain(NODE, "Node", "next", 2, ring=True)
        never = Travel(NODE, reader=NODE, rules={"Node": "never"})
        self.assertEqual(raised(Endless, sent, never, ring).travel, 1)
        self.assertEqual(raised(BadWeb, sent, never, ring.rooted(1)).thing, 1)

    def grown(self, count):
        """A web on which never makes 2 ** count - 1 things."""
        return Web(NODE, [("Node", {"all": [at + 1, at + 1]}) for at in range(count - 1)] + [("Node", {})])

    def test_sizes(self):
        never = Travel(NODE, reader=NODE, rules={"Node": "never"})
        self.assertEqual(len(sent(never, self.grown(11)).split("\n")), 2047)
        self.assertEqual(raised(TooLarge, sent, never, self.grown(12)).count, 4000)
        house = House("A", [Kind("A", [many("all", "B")]), Kind("B", [many("all", "C")]), Kind("C", [])])
        travel = Travel(house, reader=house, rules={"B": "never", "C": "never"})

        def web(leaves, rest):
            """One A, 20 times the same B with this many leaves, and another B with the rest."""
            return Web(house, [("A", {"all": [1] * 20 + [2]}), ("B", {"all": [3] * leaves}), ("B", {"all": [3] * rest}),
                               ("C", {})])
        # 1 + 21 + 20 * 190 + rest things are made besides the four at home.
        self.assertEqual(len(sent(travel, web(190, 78)).split("\n")), 3900)
        self.assertEqual(raised(TooLarge, sent, travel, web(190, 79)).count, 3900)
        self.assertEqual(raised(TooLarge, sent, travel, web(190, 174)).count, 3900)
        self.assertEqual(raised(TooLarge, sent, travel, web(190, 175)).count, 4000)
        text = sent(travel, web(190, 78))
        self.assertEqual(saved(brought(travel, text, Register(web(190, 78)))), travelled(travel, web(190, 78)))


class TestBrought(unittest.TestCase):
    def test_errors_in_their_order(self):
        known = Register(writer_web())
        for text in ("", "0 Root"):
            self.assertIsNone(raised(BadTravel, brought, Travel(WRITER), text, known).kind)
            self.assertEqual(raised(BadSaved, brought, Travel(WRITER, reader=READER), text, known).line, 0)
        travel = Travel(WRITER, reader=READER)
        text = "0 Root m=0 leaf=#1 tags=[Tag@8] tag=- all=[]\n1 Leaf a=0 back=#0"
        self.assertEqual(len(brought(travel, text, known)), 3)
        self.assertEqual(raised(BadSaved, brought, travel, text, Register(Web(WRITER, [("Root", {})]))).line, 0)
        self.assertEqual(raised(BadSaved, brought, travel, text + "\n", known).line, 2)
        # The text is one of the source house.
        self.assertEqual(raised(BadSaved, brought, travel, "0 Root names=[] n=1 leaf=-", known).line, 0)

    def test_a_field_that_the_reader_adds(self):
        reader = WRITER.with_kinds([WRITER.kind_named("Root"), Kind("Leaf", [mark("x", default=-2), link("up")]), TAG])
        web = brought(Travel(WRITER, reader=reader), "0 Leaf a=1 back=-", Register(writer_web()))
        self.assertEqual(web.things(), [("Leaf", {"x": -2, "up": None})])


class TestDrawn(unittest.TestCase):
    def test_as_the_walk(self):
        chance = random.Random(21)
        ended = named = 0
        for _ in range(500):
            house = drawn_house(chance, with_kinds=["Tag"])
            web = drawn_home(chance, house, 9)
            travel = drawn_travel(chance, house, reader=drawn_edition(chance, house))
            try:
                expected = travelled(travel, web)
            except (Endless, TooLarge) as e:
                self.assertEqual(vars(raised(e.__class__, sent, travel, web)), vars(e))
                continue
            text = sent(travel, web)
            self.assertEqual(saved(brought(travel, text, Register(web))), expected)
            ended += 1
            named += "@" in text
        self.assertGreater(min(ended, 3 * named), 100)


if __name__ == "__main__":
    unittest.main()
