"""Rows that the tests of verdicts share, and what is checked of every example."""

import random

from tests.samples import link, many, mark
from waypairs.clientrun import run
from waypairs.clients import needed
from waypairs.journeys import ideal, journey
from waypairs.kinds import House, Kind
from waypairs.rows import Row
from waypairs.rules import is_home
from waypairs.travels import Travel

TOWN = House("Root", [
    Kind("Root", [mark("m", default=2), link("a", "Node"), link("b", "Node"), many("all", "Node"), link("tag", "Tag"),
                  link("ice", "Ice"), link("cube", "Ice")]),
    Kind("Node", [mark("m", default=3), link("leaf", "Leaf"), many("leaves", "Leaf")]),
    Kind("Leaf", [mark("m"), mark("n", default=1)]),
    Kind("Tag", [mark("code"), mark("tone")], key="code", registered=True),
    Kind("Ice", [link("leaf", "Leaf"), link("dot", "Dot")], frozen=True),
    Kind("Dot", []),
])
# The tag is found by name, so that copies of the town are right.
NAMED = {("Root", "tag"): "named"}


def copy(fates=None, rules=None, *, house=TOWN):
    """A copying travel of the town, which finds its tags by name unless another fate is given."""
    given = dict(NAMED) if house is TOWN else {}
    given.update(fates or {})
    return Travel(house, fates=given, rules=rules)


def town_row(fates=None, rules=None, *, before=0, behind=0):
    """A row of one such travel with right copies before and behind it."""
    return Row([copy()] * before + [copy(fates, rules)] + [copy()] * behind)


def staying_row(kinds):
    """A row that always ends, of kinds that hold each other by fields of many fates; six of them make it too large."""
    chance = random.Random(1)
    names = ["A" + letter for letter in "abcdefghijkl"[:kinds]]
    house = House("Aa", [Kind(name, [many(letter) for letter in "abcdefgh"]) for name in names])
    fates = [{(name, letter): chance.choice(["goes", "stays"]) for name in names for letter in "abcdefgh"}
             for _ in range(4)]
    return Row([Travel(house, fates=one) for one in fates])


def renamed(house, kinds, fields):
    """The house with other names of kinds and fields, dicts from old names to new ones."""
    new = []
    for name in house.names:
        kind = house.kind_named(name)
        own = [field_named(field, kinds, fields) for field in kind.fields]
        new.append(Kind(kinds[name], own, base=kinds.get(kind.base), frozen=kind.frozen, heirs=kind.heirs,
                        key=fields.get(kind.key), registered=kind.registered))
    return House(kinds[house.root], new)


def field_named(field, kinds, fields):
    """The field with another name and target."""
    if field.mode == "mark":
        return mark(fields[field.name], default=field.default, was=[fields[name] for name in field.was])
    make = link if field.mode == "link" else many
    return make(fields[field.name], kinds.get(field.target, "any"), was=[fields[name] for name in field.was])


def check_example(test, row, example, manners, cost):
    """Checks all that the document says of an example for a set of manners that tells, with this least cost."""
    web, client = example.web, example.client
    test.assertTrue(is_home(web))
    test.assertEqual(web.house, row.home)
    test.assertIsNotNone(web.thing_at(example.one_way))
    test.assertIsNotNone(web.thing_at(example.other_way))
    test.assertEqual(len(example.one_way) + len(example.other_way), cost)
    test.assertIs(type(client), list)
    test.assertEqual(needed(client), example.manners)
    test.assertTrue(example.manners.within(manners))
    told, expected = run(client, journey(row, web).pair()), run(client, ideal(web))
    test.assertEqual(told[:-1], expected[:-1])
    test.assertNotEqual(told[-1], expected[-1])
    check_ends(test, example)
    check_marks(test, example)
    check_steps(test, example)


def check_ends(test, example):
    """Checks where the two ways lead, and the last lines of the client."""
    web = example.web
    ends = (web.thing_at(example.one_way), web.thing_at(example.other_way))
    words = [line[0] for line in example.client if line[0] != "step"]
    if example.fault in ("lost", "shared", "copied"):
        test.assertEqual(example.one_way, example.other_way)
    if example.fault in ("merged", "joined"):
        test.assertNotEqual(*ends)
        test.assertEqual(web.kind_of(ends[0]), web.kind_of(ends[1]))
    else:
        test.assertEqual(*ends)
    if example.fault in ("lost", "merged"):
        test.assertEqual(words, ["see"])
    elif "ask" in example.manners:
        test.assertEqual(words, ["same"])
    else:
        test.assertEqual(words[1:], ["see"])
        test.assertIn(words[0], ("mark", "link", "clear"))
    test.assertEqual("old" in example.manners, example.fault in ("shared", "copied"))


def check_marks(test, example):
    """Checks that all marks are unlike each other and the defaults, but for those of the two things."""
    web = example.web
    marks = {}
    for thing in range(len(web)):
        for name in web.house.marks_of(web.kind_of(thing)):
            marks[thing, name] = web[thing, name]
    if example.fault in ("merged", "joined"):
        one, other = web.thing_at(example.one_way), web.thing_at(example.other_way)
        for name in web.house.marks_of(web.kind_of(one)):
            test.assertEqual(marks[one, name], marks.pop((other, name)))
    test.assertEqual(len(set(marks.values())), len(marks))
    defaults = {field.default for kind in web.house.names for field in web.house.fields_of(kind)}
    test.assertEqual(defaults & set(marks.values()), set())


def check_steps(test, example):
    """Checks that the web has the steps of the two ways, and at most one more for what the client needs."""
    web = example.web
    count = sum(len(web.steps(thing)) for thing in range(len(web)))
    used = set()
    for way in (example.one_way, example.other_way):
        for length in range(len(way)):
            used.add((web.thing_at(way[:length]), way[length]))
    test.assertLessEqual(count - len(used), 1)
    if example.fault in ("torn", "joined", "shared", "copied") and "ask" in example.manners:
        test.assertEqual(count, len(used))
