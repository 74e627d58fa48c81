"""[5.1] to [5.3]: saved texts of webs."""

import random
import unittest

from tests.drawn import drawn_home, drawn_house
from tests.plain import shuffled, some_web
from tests.samples import any_values, chain, link, many, mark, node_house, raised, town_web
from waypairs.errors import BadWeb, TooLarge
from waypairs.kinds import House, Kind
from waypairs.matching import alike
from waypairs.manners import Manners
from waypairs.saved import saved
from waypairs.webs import Web

NODE = node_house()
HOUSE = House("Root", [
    Kind("Root", [link("one"), mark("m", default=-4), many("all"), link("tag", "Tag")]),
    Kind("Tag", [mark("tone"), mark("code")], key="code", registered=True),
    Kind("Note", [mark("line")], key="line"),
    Kind("Dot", []),
])


def tagged(**values):
    return Web(HOUSE, [("Root", values), ("Tag", {"code": -7, "tone": 3}), ("Tag", {"code": 5}), ("Note", {"line": 1}),
                       ("Dot", {}), ("Tag", {"code": -7, "tone": 4})])


class TestSaved(unittest.TestCase):
    def test_one_thing(self):
        self.assertEqual(saved(web=Web(NODE, [("Node", {})])), "0 Node age=0 next=- all=[]")
        self.assertEqual(saved(Web(NODE, [("Node", {"age": -12, "next": 0, "all": [0, 0]})])),
                         "0 Node age=-12 next=#0 all=[#0,#0]")
        self.assertEqual(saved(Web(HOUSE, [("Dot", {})])), "0 Dot")

    def test_numbers_are_given_as_things_are_met(self):
        web = Web(NODE, [("Node", {"age": 0}), ("Node", {"age": 1, "next": 4, "all": [2, 4, 3, 5]}),
                         ("Node", {"age": 2, "next": 5}), ("Node", {"age": 3, "all": [6, 1]}),
                         ("Node", {"age": 4, "next": 6}), ("Node", {"age": 5}), ("Node", {"age": 6, "next": 2})],
                  here=1, old=0)
        self.assertEqual(saved(web), "\n".join([
            "0 Node age=1 next=#1 all=[#2,#1,#3,#4]", "1 Node age=4 next=#5 all=[]", "2 Node age=2 next=#4 all=[]",
            "3 Node age=3 next=- all=[#5,#0]", "4 Node age=5 next=- all=[]", "5 Node age=6 next=#2 all=[]"]))
        self.assertEqual([number for number in web.reached()], [1, 4, 2, 3, 5, 6])

    def test_things_that_are_not_reached(self):
        web = Web(NODE, [("Node", {"next": 2}), ("Node", {"next": 0}), ("Node", {"age": 7})])
        self.assertEqual(saved(web), "0 Node age=0 next=#1 all=[]\n1 Node age=7 next=- all=[]")
        self.assertEqual(saved(web.rooted(2, old=1)), "0 Node age=7 next=- all=[]")

    def test_rings_and_shared_things(self):
        self.assertEqual(saved(chain(NODE, "Node", "next", 3, ring=True)),
                         "0 Node age=0 next=#1 all=[]\n1 Node age=0 next=#2 all=[]\n2 Node age=0 next=#0 all=[]")
        self.assertEqual(saved(town_web()).split("\n")[2], "2 Clerk age=30 friend=#1 desk=8 papers=[#5,#6]")
        self.assertEqual(saved(town_web()).split("\n")[4], "4 Judge age=60 friend=- court=#0")

    def test_the_example(self):
        house = House("Node", [Kind("Node", [mark("age"), link("next", "Node"), many("tags", "Tag")]),
                               Kind("Tag", [mark("code")], key="code", registered=True)])
        web = Web(house, [("Node", {"age": 5, "next": 0, "tags": [1, 1]}), ("Tag", {"code": -7})])
        self.assertEqual(saved(web, named=[1]), "0 Node age=5 next=#0 tags=[Tag@-7,Tag@-7]")


class TestNamed(unittest.TestCase):
    def test_in_links_and_lists(self):
        web = tagged(one=1, all=[2, 1, 3, 5], tag=2)
        self.assertEqual(saved(web), "\n".join([
            "0 Root one=#1 m=-4 all=[#2,#1,#3,#4] tag=#2", "1 Tag tone=3 code=-7", "2 Tag tone=0 code=5",
            "3 Note line=1", "4 Tag tone=4 code=-7"]))
        self.assertEqual(saved(web, named=[1]), "\n".join([
            "0 Root one=Tag@-7 m=-4 all=[#1,Tag@-7,#2,#3] tag=#1", "1 Tag tone=0 code=5", "2 Note line=1",
            "3 Tag tone=4 code=-7"]))
        # Several with one kind and key are written alike.
        self.assertEqual(saved(web, named=(5, 2, 1, 2)),
                         "0 Root one=Tag@-7 m=-4 all=[Tag@5,Tag@-7,#1,Tag@-7] tag=Tag@5\n1 Note line=1")

    def test_named_things_that_are_not_reached(self):
        self.assertEqual(saved(tagged(one=4), named=[1, 5]), "0 Root one=#1 m=-4 all=[] tag=-\n1 Dot")

    def test_wrong_entries(self):
        web = tagged(one=1, all=[2, 3, 4])
        for value in any_values() + [0, 3, 4, 6, "1", True, "Tag", ("Tag", -7)]:
            for named in ([value], [1, value], (1, 2, value), [value, 2], [2, value, "no", -5]):
                self.assertIs(raised(BadWeb, saved, web, named=named).thing, value)
        here = web.rooted(1)
        self.assertEqual(raised(BadWeb, saved, here, named=[2, 1]).thing, 1)
        self.assertEqual(saved(here, named=[5]), "0 Tag tone=3 code=-7")
        self.assertEqual(saved(web.rooted(0, old=1), named=[1]).split(" ")[2], "one=Tag@-7")


class TestSizes(unittest.TestCase):
    def test_lines(self):
        text = saved(chain(NODE, "Node", "next", 3900))
        self.assertEqual(len(text.split("\n")), 3900)
        self.assertEqual(text.split("\n")[-1], "3899 Node age=0 next=- all=[]")
        web = chain(NODE, "Node", "next", 3901)
        self.assertEqual(raised(TooLarge, saved, web).count, 3900)
        self.assertEqual(raised(TooLarge, saved, chain(NODE, "Node", "next", 4000, ring=True)).count, 3900)
        # Only what is reached counts, and what is named does not.
        self.assertEqual(len(saved(web.rooted(1)).split("\n")), 3900)
        self.assertEqual(raised(BadWeb, saved, web, named=[0]).thing, 0)

    def test_named_things_have_no_lines(self):
        house = House("Root", [Kind("Root", [link("next", "Root"), link("tag", "Tag")]),
                               Kind("Tag", [mark("code")], key="code", registered=True)])
        things = [("Root", {"next": at + 1}) for at in range(3899)] + [("Root", {"tag": 3900}), ("Tag", {})]
        web = Web(house, things)
        self.assertEqual(raised(TooLarge, saved, web).count, 3900)
        self.assertEqual(saved(web, named=[3900]).split("\n")[-1], "3899 Root next=- tag=Tag@0")


class TestOneText(unittest.TestCase):
    def test_things_in_unlike_orders(self):
        chance = random.Random(3)
        for _ in range(60):
            web = some_web(chance, chance.randrange(1, 9))
            other = shuffled(chance, web)
            self.assertEqual(saved(web), saved(other))
            self.assertEqual(saved(web), saved(web.rooted(web.here).trimmed()))

    def test_unlike_webs_have_unlike_texts(self):
        chance = random.Random(4)
        texts = {"same": 0, "other": 0}
        for _ in range(600):
            first, second = some_web(chance, 2, marks=1, places=1), some_web(chance, 2, marks=1, places=1)
            # Clients with ask tell apart just what cannot be assigned one to one.
            same = alike(first, second, Manners("ask"))
            self.assertEqual(saved(first) == saved(second), same)
            texts["same" if same else "other"] += 1
        self.assertGreater(min(texts.values()), 30)

    def test_drawn_houses(self):
        chance = random.Random(6)
        for _ in range(100):
            web = drawn_home(chance, drawn_house(chance), 10)
            self.assertEqual(saved(web), saved(shuffled(chance, web)))
            self.assertEqual(len(saved(web).split("\n")), len(web))


if __name__ == "__main__":
    unittest.main()
