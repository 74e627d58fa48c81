"""[1.10] and [1.11]: the texts of houses and webs."""

import unittest

from tests.samples import any_values, link, many, mark, node_house, raised, town_house, town_web
from waypairs.errors import BadField, BadHouse, BadKind, BadText, BadWeb
from waypairs.kinds import House, Kind
from waypairs.webs import Web
from waypairs.webtext import house_text, read_house, read_web, web_text

NODE = node_house()
TOWN_TEXT = """house Town
kind Town
mark size 3
link mayor Person
list parts any
kind Person heirs
mark age 0
link friend Person
kind Clerk of Person
mark desk -7
list papers Paper
kind Judge of Person
link court Town
kind Paper frozen
mark page 0
link stamp Stamp
kind Stamp frozen
mark worth 0
kind Tag key code registered
mark code 0
mark tone 0
kind Note key line
mark line 0
kind Dot
kind Lost
mark way 0"""
FULL_TEXT = """house Root
kind Root
list a any was b
link c Base was d e
mark f -999999999999 was g
kind Base heirs
mark h 0
kind Heir of Base key h registered
kind Ice frozen key key
mark key 5 was frozen heirs
kind Cold frozen key heirs registered
mark heirs 0"""
WRONG_NUMBERS = ["", "-", "-0", "+1", "01", "-01", "00", "1 ", "--1", "1-", "a", "1.0", "1_0", "0x1", "9" * 31,
                 "-" + "9" * 31, "1" + "0" * 30, "None", "True"]


class TestHouseText(unittest.TestCase):
    def test_word_by_word(self):
        self.assertEqual(house_text(town_house()), TOWN_TEXT)
        house = House("Root", [
            Kind("Root", [many("a", was=["b"]), link("c", "Base", was=["d", "e"]),
                          mark("f", default=1 - 10 ** 12, was=["g"])]),
            Kind("Base", [mark("h")], heirs=True),
            Kind("Heir", [], base="Base", key="h", registered=True),
            Kind("Ice", [mark("key", default=5, was=["frozen", "heirs"])], frozen=True, key="key"),
            Kind("Cold", [mark("heirs")], frozen=True, key="heirs", registered=True)])
        self.assertEqual(house_text(house=house), FULL_TEXT)
        self.assertEqual(read_house(FULL_TEXT), house)

    def test_there_and_back(self):
        for house in (town_house(), NODE, House("Any", [Kind("Any", [])])):
            self.assertEqual(read_house(text=house_text(house)), house)
        for text in (TOWN_TEXT, FULL_TEXT, "house A\nkind A"):
            self.assertEqual(house_text(read_house(text)), text)

    def test_no_string(self):
        for value in any_values() + [b"house A"]:
            if not isinstance(value, str):
                self.assertEqual(raised(BadText, read_house, value).line, -1)

    def refused(self, line, text):
        self.assertEqual(raised(BadText, read_house, text).line, line, text)

    def test_house_lines(self):
        for line in ["", "house", "House A", "house a", "house A B", "house  A", " house A", "house A ", "house Any1",
                     "house Abcdefghi", "kind A", "web 0", "house any"]:
            self.refused(0, line + "\nkind A")
            self.refused(0, line)
        for value in any_values():
            if isinstance(value, str):
                self.refused(0, value)

    def test_line_one_is_a_kind_line(self):
        for line in ["mark a 0", "link a any", "list a any", "", "house A", "kind", "kind a"]:
            self.refused(1, "house A\n" + line)
        self.refused(1, "house A\n")

    def test_kind_lines(self):
        wrong = ["kind", "kind b", "kind B of", "kind B of a", "kind B of any", "kind B of A of A", "kind B  frozen",
                 "kind B frozen ", " kind B", "kind  B", "kind B frozen frozen", "kind B heirs frozen",
                 "kind B heirs heirs", "kind B key", "kind B key A", "kind B key a key b", "kind B registered key a",
                 "kind B registered registered", "kind B key a frozen", "kind B frozen of A", "kind B key a heirs",
                 "kind B key a registered x", "kind B soft", "kind B Frozen", "kind B key abcdefghi", "kind B of A1",
                 "kind Abcdefghi", "kind B key a of A", "kind B heirs of A", "kind B registered heirs", "kinds B",
                 "kind B was a"]
        for line in wrong:
            self.refused(1, "house A\n" + line)
            self.refused(2, "house A\nkind A\n" + line)
            self.refused(4, "house A\nkind A\nmark a 0\nmark b 0\n" + line + "\nkind C\nnothing")

    def test_key_takes_the_next_word(self):
        house = read_house("house A\nkind A\nkind B key frozen\nmark frozen 0\nkind C key of registered\n"
                           "mark of 0\nkind D key heirs\nmark heirs 1\nkind E key key\nmark key 0")
        self.assertEqual([house.key_of(kind) for kind in "BCDE"], ["frozen", "of", "heirs", "key"])
        self.assertEqual([house.is_registered(kind) for kind in "BC"], [False, True])
        self.assertFalse(house.is_frozen("B"))
        self.assertFalse(house.lets_heirs("D"))
        # A word of ten letters is no field name.
        self.refused(2, "house A\nkind A\nkind B key registered")

    def test_field_lines(self):
        wrong = ["", " ", "mark", "mark a", "mark A 0", "mark a 0 was", "mark a 0 was b c d", "mark a 0 b",
                 "mark a 0 was B", "mark a 0 was b C", "mark a 0  was b", "mark a 0 was b ", "mark  a 0", " mark a 0",
                 "mark a 0 ", "mark abcdefghi 0", "mark a any", "mark a A", "link a", "link a a", "link a 0",
                 "link a None1", "link a A B", "link A any", "link a any was", "link a any was 1", "list a",
                 "list a Abcdefghi", "list a any any", "set a any", "Mark a 0", "mark a 0 Was b", "field a mark",
                 "mark a 0 was b was c", "list a any was b c d",
                 "mark a any was b", "link a 0 was b", "set a any was b", "mark A 0 was b", "link a any x b"]
        wrong.extend("mark a " + number for number in WRONG_NUMBERS)
        for line in wrong:
            self.refused(2, "house A\nkind A\n" + line)
            self.refused(3, "house A\nkind A\nlink x A\n" + line)
            self.refused(3, "house A\nkind A\nkind B\n" + line + "\nmark b 0\n\n")
        self.refused(3, "house A\nkind A\nmark a 0\n")
        self.refused(2, "house A\nkind A\n\nmark a 0")

    def test_a_target_that_is_a_word_of_lines(self):
        self.assertEqual(read_house("house A\nkind A\nlink was any was link").field_of("A", "was").was, ("link",))

    def test_the_first_wrong_line_comes_ahead_of_every_other_error(self):
        self.refused(5, "house Z\nkind A frozen heirs\nmark a 1000000000000\nkind A\nmark b 0 was b\nlink c")
        self.refused(3, "house A\nkind A\nmark a 0\nx\ny")

    def test_then_the_errors_of_what_is_described(self):
        def name(error, text):
            return raised(error, read_house, text).name
        self.assertIsNone(name(BadHouse, "house A"))
        self.assertEqual(name(BadHouse, "house B\nkind A"), "B")
        self.assertEqual(name(BadField, "house A\nkind A\nmark a 1000000000000"), "a")
        self.assertEqual(name(BadField, "house A\nkind A\nmark a -" + "9" * 30), "a")
        self.assertEqual(name(BadField, "house A\nkind A\nmark a 0 was a"), "a")
        self.assertEqual(name(BadField, "house A\nkind A\nlink a A was b b"), "a")
        self.assertEqual(name(BadKind, "house A\nkind A of A"), "A")
        self.assertEqual(name(BadKind, "house A\nkind A\nkind B registered"), "B")
        self.assertEqual(name(BadKind, "house A\nkind A\nkind B of A frozen"), "B")
        self.assertEqual(name(BadKind, "house A\nkind A\nmark a 0\nmark a 0"), "A")
        self.assertEqual(name(BadKind, "house A\nkind A" + "".join("\nmark a" + x + " 0" for x in "abcdefghijk")), "A")
        self.assertEqual(name(BadHouse, "house A\nkind A\nlink a B"), "A")
        self.assertIsNone(name(BadHouse, "house A" + "".join("\nkind A" + x for x in "abcdefghijklm")))

    def test_they_are_raised_in_the_order_of_the_text(self):
        # A kind is made behind its last field, and ahead of the fields of the next kind.
        self.assertEqual(raised(BadField, read_house, "house A\nkind A frozen heirs\nmark a 0 was a").name, "a")
        self.assertEqual(raised(BadKind, read_house, "house A\nkind A frozen heirs\nkind B\nmark a 0 was a").name, "A")
        self.assertEqual(raised(BadField, read_house, "house A\nkind A\nmark a 0 was a\nmark b 0 was b").name, "a")
        self.assertEqual(raised(BadKind, read_house, "house Z\nkind A\nlink a Q\nkind B of B").name, "B")


WEB_TEXT = """web 0
thing Town size=3 mayor=1 parts=2,5,6,2
thing Person age=40 friend=2
thing Clerk age=30 friend=1 desk=8 papers=3,4
thing Paper page=1 stamp=7
thing Paper page=2 stamp=-
thing Tag code=5 tone=-5
thing Judge age=60 friend=- court=0
thing Stamp worth=9"""


class TestWebText(unittest.TestCase):
    def test_word_by_word(self):
        self.assertEqual(web_text(town_web()), WEB_TEXT)
        self.assertEqual(web_text(web=Web(NODE, [("Node", {}), ("Node", {"all": [0]})], here=1, old=0)),
                         "web 1 0\nthing Node age=0 next=- all=-\nthing Node age=0 next=- all=0")
        self.assertEqual(web_text(Web(town_house(), [("Dot", {})], old=0)), "web 0 0\nthing Dot")

    def test_there_and_back(self):
        webs = [town_web(), town_web().rooted(3, old=6), Web(NODE, [("Node", {"age": 1 - 10 ** 30, "all": [0] * 200})]),
                Web(NODE, [("Node", {"next": 1}), ("Node", {"age": 10 ** 30 - 1})])]
        for web in webs:
            self.assertEqual(read_web(web.house, web_text(web)), web)
            self.assertEqual(web_text(read_web(house=web.house, text=web_text(web))), web_text(web))

    def test_fields_in_another_order_and_left_out(self):
        self.assertEqual(read_web(NODE, "web 0\nthing Node all=0,0 age=-4"),
                         Web(NODE, [("Node", {"age": -4, "all": [0, 0]})]))
        web = read_web(town_house(), "web 0\nthing Clerk papers=- desk=2 friend=-\nthing Clerk")
        self.assertEqual(web.things(), [("Clerk", {"age": 0, "friend": None, "desk": 2, "papers": []}),
                                        ("Clerk", {"age": 0, "friend": None, "desk": -7, "papers": []})])
        self.assertEqual(list(web.things()[0][1]), ["age", "friend", "desk", "papers"])

    def test_no_string(self):
        for value in any_values():
            if not isinstance(value, str):
                self.assertEqual(raised(BadText, read_web, NODE, value).line, -1)
            else:
                self.assertEqual(raised(BadText, read_web, NODE, value).line, 0)

    def refused(self, line, text, house=NODE):
        self.assertEqual(raised(BadText, read_web, house, text).line, line, text)

    def test_web_lines(self):
        wrong = ["", "web", "web ", "Web 0", "web 0 0 0", "web  0", " web 0", "web 0 ", "web 0  0", "thing Node",
                 "house A", "web a", "web - 0", "web 0,0", "web 0 -"]
        wrong.extend("web " + number for number in WRONG_NUMBERS if number != "1 ")
        wrong.extend("web 0 " + number for number in WRONG_NUMBERS)
        for line in wrong:
            self.refused(0, line + "\nthing Node")
            self.refused(0, line)

    def test_thing_lines(self):
        wrong = ["", " ", "thing", "thing ", "thing node", "thing None", "thing any", "Thing Node", "thing  Node",
                 " thing Node", "thing Node ", "thing Node age=1 ", "thing Node  age=1", "node Node", "thing Node age",
                 "thing Node age=1 age=1", "thing Node age=1 next=- age=2", "thing Node no=1", "thing Node Age=1",
                 "thing Node =1", "thing Node age==1", "thing Node age=-", "thing Node age=1,2", "thing Node next=",
                 "thing Node next=0,0", "thing Node next=--", "thing Node all=", "thing Node all=,",
                 "thing Node all=0,",
                 "thing Node all=,0", "thing Node all=0,,0", "thing Node all=0,-", "thing Node all=-,0",
                 "thing Node all=[0]", "thing Node all=0 0", "thing Node all=0, 0", "thing Node next=None", "web 0",
                 "thing Node age= 1", "thing Node age =1"]
        wrong.extend("thing Node age=" + number for number in WRONG_NUMBERS)
        wrong.extend("thing Node next=" + number for number in WRONG_NUMBERS if number != "-")
        wrong.extend("thing Node all=" + number for number in WRONG_NUMBERS if number != "-")
        wrong.extend("thing Node all=0," + number for number in WRONG_NUMBERS)
        for line in wrong:
            self.refused(1, "web 0\n" + line)
            self.refused(2, "web 0\nthing Node\n" + line)
            self.refused(2, "web 0\nthing Node age=1\n" + line + "\nthing Node\nno")
        self.refused(2, "web 0\nthing Node\n")
        self.refused(1, "web 0\n\nthing Node")
        self.refused(1, "web 0\nthing Person desk=1", town_house())
        self.refused(1, "web 0\nthing Town friend=-", town_house())

    def test_the_first_wrong_line_comes_ahead_of_every_other_error(self):
        self.refused(2, "web 9 9\nthing Node next=7\nthing Node age=1 age=1")
        self.refused(0, "web 00\nthing Node no=1")

    def test_then_the_errors_of_the_web(self):
        def thing(text, house=NODE):
            return raised(BadWeb, read_web, house, text).thing
        self.assertEqual(thing("web 0"), -1)
        self.assertEqual(thing("web 1\nthing Node"), -1)
        self.assertEqual(thing("web -1\nthing Node"), -1)
        self.assertEqual(thing("web 0 -1\nthing Node"), -1)
        self.assertEqual(thing("web 0 1\nthing Node"), -1)
        self.assertEqual(thing("web 0\nthing Node\nthing Node next=2"), 1)
        self.assertEqual(thing("web 0\nthing Node next=-1"), 0)
        self.assertEqual(thing("web 0\nthing Node\nthing Node all=0,-1"), 1)
        self.assertEqual(thing("web 9\nthing Node all=" + ",".join(["0"] * 201)), 0)
        self.assertEqual(thing("web 0\nthing Town mayor=0", town_house()), 0)
        self.assertEqual(thing("web 0" + "\nthing Node" * 4001), -1)
        self.assertEqual(len(read_web(NODE, "web 0" + "\nthing Node" * 4000)), 4000)

    def test_numbers_of_thirty_digits(self):
        web = read_web(NODE, "web 0\nthing Node age=" + "9" * 30 + "\nthing Node age=-" + "9" * 30)
        self.assertEqual((web[0, "age"], web[1, "age"]), (10 ** 30 - 1, 1 - 10 ** 30))
        self.assertEqual(raised(BadWeb, read_web, NODE, "web 0\nthing Node next=" + "9" * 30).thing, 0)


if __name__ == "__main__":
    unittest.main()
