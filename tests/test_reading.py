"""[5.5]: reading saved texts."""

import random
import unittest

from tests.drawn import drawn_home, drawn_house
from tests.samples import chain, link, many, mark, node_house, raised
from waypairs.errors import BadSaved
from waypairs.kinds import House, Kind
from waypairs.reading import read_saved
from waypairs.registers import Register
from waypairs.saved import saved
from waypairs.webs import Web

NODE = node_house()
HOUSE = House("Root", [
    Kind("Root", [mark("m"), link("to", "Root"), link("any"), many("leaves", "Leaf"), many("all"), link("tag", "Tag")]),
    Kind("Leaf", [mark("a"), link("tag", "Tag")]),
    Kind("Tag", [mark("code"), mark("tone")], key="code", registered=True),
    Kind("Sign", [mark("key")], key="key", registered=True),
    Kind("Note", [mark("line")], key="line"),
    Kind("Base", [mark("b")], heirs=True),
    Kind("Heir", [], base="Base"),
    Kind("Hold", [link("base", "Base"), many("heirs", "Heir")]),
])


def known_web():
    return Web(HOUSE, [("Root", {"all": [1, 2, 3, 4, 5]}), ("Tag", {"code": 5, "tone": 50}), ("Tag", {"code": -7}),
                       ("Sign", {"key": 5}), ("Note", {"line": 5}), ("Tag", {"code": 0, "tone": -1})])


KNOWN = Register(known_web())


def root(number=0, m="0", to="-", any="-", leaves="[]", all="[]", tag="-"):
    return f"{number} Root m={m} to={to} any={any} leaves={leaves} all={all} tag={tag}"


class Reading(unittest.TestCase):
    def read(self, *lines):
        text = "\n".join(lines)
        web = read_saved(HOUSE, text, known=KNOWN)
        named = range(len(lines), len(web))
        self.assertEqual(saved(web, named=list(named)), text)
        self.assertEqual((web.house, web.here, web.old), (HOUSE, 0, None))
        return web.things()

    def wrong(self, line, *lines, known=KNOWN):
        self.assertEqual(raised(BadSaved, read_saved, HOUSE, "\n".join(lines), known=known).line, line, lines)


class TestRight(Reading):
    def test_one_line(self):
        self.assertEqual(read_saved(house=NODE, text="0 Node age=-5 next=#0 all=[#0]").things(),
                         [("Node", {"age": -5, "next": 0, "all": [0]})])
        self.assertEqual(self.read("0 Leaf a=" + "9" * 30 + " tag=-"), [("Leaf", {"a": 10 ** 30 - 1, "tag": None})])
        self.assertEqual(self.read("0 Tag code=1 tone=-2"), [("Tag", {"code": 1, "tone": -2})])

    def test_references_on_all_sides(self):
        things = self.read(root(to="#0", any="#1", leaves="[#2,#3,#2]", all="[#1,#4]"), root(1, to="#0", all="[#5]"),
                           "2 Leaf a=1 tag=#6", "3 Leaf a=2 tag=-", "4 Note line=3",
                           root(5, to="#1", leaves="[#2]", all="[#4,#5]"), "6 Tag code=1 tone=1")
        self.assertEqual(things[0], ("Root", {"m": 0, "to": 0, "any": 1, "leaves": [2, 3, 2], "all": [1, 4],
                                              "tag": None}))
        self.assertEqual(things[5][1]["leaves"], [2])
        self.assertEqual(things[2], ("Leaf", {"a": 1, "tag": 6}))

    def test_targets_that_admit_heirs(self):
        self.read("0 Hold base=#1 heirs=[#1]", "1 Heir b=0")
        self.read("0 Hold base=#1 heirs=[]", "1 Base b=0")
        self.wrong(1, "0 Hold base=#1 heirs=[#1]", "1 Base b=0")
        self.wrong(1, "0 Hold base=- heirs=[#1]", "1 Base b=0")
        self.wrong(1, "0 Hold base=#1 heirs=[#1]", "1 Leaf a=0 tag=-")

    def test_by_name(self):
        things = self.read(root(any="Tag@-7", all="[Sign@5,#1,Tag@5,Tag@-7]", tag="Tag@5"), "1 Leaf a=0 tag=Tag@0")
        self.assertEqual(things[2:], [("Tag", {"code": -7, "tone": 0}), ("Sign", {"key": 5}),
                                      ("Tag", {"code": 5, "tone": 50}), ("Tag", {"code": 0, "tone": -1})])
        self.assertEqual(things[0][1], {"m": 0, "to": None, "any": 2, "leaves": [], "all": [3, 1, 4, 2], "tag": 4})
        self.assertEqual(things[1], ("Leaf", {"a": 0, "tag": 5}))
        # A numbered thing with the same name is another thing.
        things = self.read(root(all="[#1,Tag@5]"), "1 Tag code=5 tone=1")
        self.assertEqual(things[1:], [("Tag", {"code": 5, "tone": 1}), ("Tag", {"code": 5, "tone": 50})])

    def test_many_lines(self):
        text = saved(chain(NODE, "Node", "next", 3900))
        self.assertEqual(len(read_saved(NODE, text)), 3900)
        line = "3900 Node age=0 next=- all=[]"
        for more in (line, "no", ""):
            self.assertEqual(raised(BadSaved, read_saved, NODE, text + "\n" + more).line, 3900)
        long = text.replace("3899 Node age=0 next=-", "3899 Node age=0 next=#3900")
        self.assertEqual(raised(BadSaved, read_saved, NODE, long).line, 3900)
        self.assertEqual(raised(BadSaved, read_saved, NODE, long + "\n" + line).line, 3900)

    def test_long_lists(self):
        def line(count):
            return "0 Node age=0 next=- all=[" + ",".join(["#0"] * count) + "]"
        self.assertEqual(len(read_saved(NODE, line(200))[0, "all"]), 200)
        self.assertEqual(raised(BadSaved, read_saved, NODE, line(201)).line, 0)

    def test_there_and_back(self):
        chance = random.Random(8)
        for _ in range(150):
            house = drawn_house(chance, with_kinds=["Tag"])
            web = drawn_home(chance, house, 9)
            tags = [at for at in range(len(web)) if house.is_registered(web.kind_of(at))]
            named = chance.sample(tags, chance.randrange(len(tags) + 1))
            text = saved(web, named=named)
            again = read_saved(house, text, known=Register(web))
            lines = len(text.split("\n"))
            self.assertEqual(len(again), lines + len({at for at in named if at in web.reached()}))
            self.assertEqual(saved(again, named=list(range(lines, len(again)))), text)
            # Nothing named, it is the web itself.
            self.assertEqual(saved(again), saved(web))


class TestWrong(Reading):
    def test_the_words_of_a_line(self):
        line = root(any="#0")
        self.read(line)
        words = line.split(" ")
        for wrong in ["", " ", "0", "0 ", "0 Leaf", "0 Rot", " " + line, line + " ", line.replace(" m", "  m"),
                      "00" + line[1:], "1" + line[1:], "-" + line, "+" + line, "#" + line, line.replace("Root", "root"),
                      line.replace("Root", "Room"), line.replace("m=", "n="), line.replace("m=", "m:"),
                      line.replace("m=0", "m"), line.replace("m=0", "m=0=0"), line.replace(" ", "\t", 1),
                      " ".join(words[:-1]), " ".join(words + ["x=0"]), " ".join(words + words[-1:]),
                      " ".join(words[:2] + [words[3], words[2]] + words[4:]), "0 0 Root", line + "\n"]:
            self.wrong(1 if wrong.endswith("\n") else 0, wrong)

    def test_numbers(self):
        for number in ["", "-", "00", "01", "-0", "-01", "+1", "1 ", "1.0", "x", "1_0", "#1", "[1]", "9" * 31,
                       "-" + "9" * 31, "None"]:
            self.wrong(0, root(m=number))
            if number not in ("-", "#1"):
                self.wrong(0, root(any=number))
        for number in ["0", "-1", "9" * 30, "-" + "9" * 30]:
            self.read(root(m=number))

    def test_references(self):
        for word in ["#", "#-1", "#00", "#01", "#-0", "#+0", "# 0", "0", "#0 ", "#x", "##0", "#0#0", "[#0]", "[]", "--",
                     "#" + "0" * 31, "Tag", "Tag@", "@5", "Tag@+5", "Tag@05", "Tag@-0", "Tag@5@5", "tag@5", "Tag#5",
                     "Tag@#5", "Tag@x", "Tag@" + "9" * 31, "#" + "9" * 30]:
            self.wrong(0, root(any=word))
            self.wrong(0, root(all=f"[{word}]"))
            self.wrong(0, root(all=f"[#0,{word},#0]"))

    def test_lists(self):
        for word in ["", "-", "#0", "[", "]", "][", "[#0", "#0]", "[,]", "[#0,]", "[,#0]", "[#0,,#0]", "[#0 ,#0]",
                     "[#0;#0]", "[-]", "(#0)", "[[#0]]", "[[]]", "[0]", "[#0]]",
                     "(#0]", "[#0)", "x#0]", "[#0x", "##0]", "[]]", "[[]", "[] "]:
            self.wrong(0, root(all=word))

    def test_no_line_refers_to_it(self):
        self.wrong(1, root(), "1 Note line=0")
        self.wrong(2, root(to="#1"), root(1), root(2))
        self.wrong(1, root(), "")

    def test_a_line_before_refers_by_another_target(self):
        self.wrong(1, root(to="#1"), "1 Leaf a=0 tag=-")
        self.wrong(1, root(leaves="[#1]"), root(1))
        self.wrong(1, root(all="[#1]", tag="#1"), "1 Sign key=0")
        self.wrong(2, root(to="#1", any="#2"), root(1, leaves="[#2]"), root(2))
        self.wrong(2, root(to="#1", any="#2"), root(1, tag="#2"), "2 Leaf a=0 tag=-")
        self.read(root(to="#1", any="#2"), root(1, leaves="[#2]"), "2 Leaf a=0 tag=-")

    def test_numbers_that_are_left_out(self):
        self.wrong(0, root(to="#2"))
        self.wrong(0, root(any="#2", all="[#1]"), root(1), root(2))
        self.wrong(0, root(all="[#1,#3,#2]"), root(1), root(2), root(3))
        self.wrong(1, root(to="#1"), root(1, to="#3", all="[#2]"), root(2), root(3))
        self.read(root(all="[#1,#2,#1,#3]"), root(1), root(2), root(3, to="#2"))

    def test_an_earlier_thing_that_the_target_does_not_admit(self):
        self.wrong(0, root(leaves="[#0]"))
        self.wrong(0, root(tag="#0"))
        self.wrong(1, root(to="#1"), root(1, leaves="[#0]"))
        self.wrong(1, root(to="#1"), root(1, leaves="[#1]"))
        self.wrong(2, root(any="#1", all="[#2]"), "1 Leaf a=0 tag=-", root(2, to="#1"))
        self.wrong(1, root(any="#1"), "1 Leaf a=0 tag=#1")
        self.wrong(1, root(any="#1"), "1 Leaf a=0 tag=#0")

    def test_names(self):
        for name in ["Note@5", "Leaf@5", "Root@0", "Nope@5", "Tag@6", "Tag@7", "Sign@-7", "Base@0"]:
            self.wrong(0, root(any=name))
            self.wrong(1, root(to="#1", any="Tag@5"), root(1, all=f"[Tag@5,{name}]"))
        self.wrong(0, root(tag="Sign@5"))
        self.wrong(0, root(leaves="[Tag@5]"))
        self.wrong(0, root(to="Tag@5"))
        self.wrong(0, root(tag="Tag@5"), known=None)
        self.wrong(1, root(any="#1"), "1 Leaf a=0 tag=Tag@5", known=None)
        self.assertEqual(raised(BadSaved, read_saved, HOUSE, root(tag="Tag@5")).line, 0)
        self.wrong(0, root(tag="Tag@5"), known=Register(Web(HOUSE, [("Root", {})])))
        self.wrong(0, "0 Tag@5")

    def test_two_wrong_lines(self):
        self.wrong(1, root(all="[#1,#2]"), "no", "no")
        self.wrong(1, root(to="#1"), "no", root(1))
        self.wrong(1, root(to="#1"), root(), root(1))
        self.wrong(1, root(to="#1"), "1 Leaf a=0 tag=-", root(1))
        self.wrong(1, root(all="[#1,#2]"), root(1, to="#9"), "no")
        self.wrong(1, root(to="#1", any="#2"), "1 Leaf a=0 tag=-", root(2, leaves="[#0]"))
        self.wrong(0, root(to="#1", leaves="[#0]"), "1 Leaf a=0 tag=-")

    def test_numbers_without_a_line(self):
        self.wrong(1, root(to="#1"))
        self.wrong(2, root(to="#1", all="[#2,#3]"), root(1))
        self.wrong(2, root(to="#1"), root(1, to="#2"))
        # A wrong line comes first.
        self.wrong(1, root(to="#1", all="[#2,#3]"), "no")
        self.wrong(1, root(to="#1", all="[#2,#3]"), "")
        self.wrong(0, "")
        self.assertEqual(raised(BadSaved, read_saved, NODE, "").line, 0)


if __name__ == "__main__":
    unittest.main()
