"""[2.4], [2.5], [2.7], [2.9]: runs of clients and sessions."""

import random
import unittest

from tests.plain import shuffled, some_client, some_web
from tests.samples import any_values, chain, link, mark, node_house, raised, town_house, town_web
from waypairs.clientrun import Session, first_difference, run
from waypairs.clients import cut
from waypairs.errors import BadClient
from waypairs.kinds import Field, House, Kind
from waypairs.manners import Manners
from waypairs.webs import Web

NODE = node_house()
STEP_LINES = [("step", "a", "here", "mayor", None), ("step", "b", "here", "parts", 0),
              ("step", "c", "here", "parts", 1), ("step", "d", "b", "papers", 0), ("step", "e", "d", "stamp", None),
              ("step", "f", "here", "parts", 2)]


def node_web(*values, **roots):
    return Web(NODE, [("Node", one) for one in values], **roots)


class TestRun(unittest.TestCase):
    def told(self, *lines, web=None):
        web = town_web() if web is None else web
        return run([*STEP_LINES, *lines], web)[len(STEP_LINES):]

    def test_steps(self):
        self.assertEqual(run(STEP_LINES, town_web()), ["thing"] * 6)
        self.assertEqual(run(client=tuple(STEP_LINES), web=town_web()), ["thing"] * 6)
        self.assertEqual(run([], town_web()), [])
        for field, place, tell in [("parts", 3, "thing"), ("parts", 4, "none"), ("parts", None, "none"),
                                   ("mayor", None, "thing"), ("mayor", 0, "none"), ("size", None, "none"),
                                   ("size", 0, "none"), ("no", None, "none"), ("parts", 10 ** 30, "none")]:
            self.assertEqual(run([("step", "a", "here", field, place)], town_web()), [tell])
        self.assertEqual(self.told(("step", "g", "d", "stamp", None), ("step", "g", "g", "stamp", None)),
                         ["thing", "none"])

    def test_see(self):
        self.assertEqual(self.told(*[("see", name) for name in ("here", "b", "c", "e", "f", "d")]),
                         [("Town", [3], [True, 4]), ("Clerk", [30, 8], [True, 2]), ("Tag", [5, -5], []),
                          ("Stamp", [9], []), ("Judge", [60], [False, True]), ("Paper", [1], [True])])
        tell = self.told(("see", "f"))[0]
        self.assertIsInstance(tell, tuple)
        self.assertIs(tell[2][0], False)
        self.assertIs(tell[2][1], True)
        self.assertEqual(run([("see", "here")], Web(town_house(), [("Dot", {})])), [("Dot", [], [])])

    def test_same(self):
        lines = [("step", "g", "here", "parts", 3), ("step", "h", "a", "friend", None)]
        tells = self.told(*lines, ("same", "b", "h"), ("same", "a", "h"), ("same", "here", "here"), ("same", "g", "b"))
        self.assertEqual(tells[2:], [True, False, True, True])
        self.assertIs(tells[2], True)
        self.assertIs(tells[3], False)

    def test_marks(self):
        self.assertEqual(self.told(("mark", "a", "age", 5), ("see", "a"), ("mark", "a", "age", 5), ("see", "a")),
                         ["done", ("Person", [5], [True]), "done", ("Person", [5], [True])])
        self.assertEqual(self.told(("mark", "b", "age", 1), ("mark", "b", "desk", 2), ("see", "b")),
                         ["done", "done", ("Clerk", [1, 2], [True, 2])])
        for line in [("mark", "a", "friend", 1), ("mark", "a", "no", 1), ("mark", "here", "parts", 1),
                     ("mark", "d", "page", 1), ("mark", "e", "worth", 9), ("mark", "c", "code", 5)]:
            self.assertEqual(self.told(line, ("see", line[1])), ["no"] + self.told(("see", line[1])))
        self.assertEqual(self.told(("mark", "c", "tone", 1), ("see", "c")), ["done", ("Tag", [5, 1], [])])

    def test_links(self):
        self.assertEqual(self.told(("link", "a", "friend", None), ("see", "a"), ("link", "a", "friend", "f"),
                                   ("step", "g", "a", "friend", None), ("see", "g"), ("same", "g", "f")),
                         ["done", ("Person", [40], [False]), "done", "thing", ("Judge", [60], [False, True]), True])
        self.assertEqual(self.told(("link", "f", "friend", None), ("see", "f")),
                         ["done", ("Judge", [60], [False, True])])
        # A target that does not admit, a field of another mode, none at all, a frozen kind.
        for line in [("link", "a", "friend", "here"), ("link", "f", "court", "a"), ("link", "a", "age", "a"),
                     ("link", "here", "parts", "a"), ("link", "a", "no", None), ("link", "a", "age", None),
                     ("link", "here", "parts", None), ("link", "d", "stamp", None), ("link", "d", "stamp", "e")]:
            self.assertEqual(self.told(line, ("see", line[1])), ["no"] + self.told(("see", line[1])), line)
        self.assertEqual(self.told(("link", "f", "court", "here"), ("link", "f", "friend", "f")), ["done", "done"])

    def test_clearing(self):
        self.assertEqual(self.told(("clear", "b", "papers"), ("see", "b"), ("clear", "b", "papers"), ("see", "d"),
                                   ("step", "d", "b", "papers", 0), ("see", "d")),
                         ["done", ("Clerk", [30, 8], [True, 0]), "done", ("Paper", [1], [True]), "none", "none"])
        for line in [("clear", "b", "friend"), ("clear", "b", "age"), ("clear", "b", "no"), ("clear", "d", "stamp"),
                     ("clear", "a", "papers")]:
            self.assertEqual(self.told(line, ("see", line[1])), ["no"] + self.told(("see", line[1])))

    def test_a_frozen_list_is_not_cleared(self):
        house = House("A", [Kind("A", [link("a")]), Kind("Ice", [mark("m"), Field("l", "list", target="Cold")],
                                                         frozen=True), Kind("Cold", [])])
        web = Web(house, [("A", {"a": 1}), ("Ice", {"l": [2]}), ("Cold", {})])
        lines = [("step", "a", "here", "a", None), ("clear", "a", "l"), ("mark", "a", "m", 1), ("see", "a")]
        self.assertEqual(run(lines, web), ["thing", "no", "no", ("Ice", [0], [1])])

    def test_a_link_to_a_frozen_thing(self):
        house = House("A", [Kind("A", [link("to", "Ice"), link("or", "Ice")]),
                            Kind("Ice", [link("to", "B")], frozen=True), Kind("B", [])])
        web = Web(house, [("A", {"to": 1}), ("Ice", {"to": 2}), ("B", {})])
        lines = [("step", "a", "here", "to", None), ("step", "b", "a", "to", None), ("link", "here", "or", "a"),
                 ("link", "a", "to", "b"), ("link", "here", "or", "b"), ("see", "here")]
        self.assertEqual(run(lines, web)[2:], ["done", "no", "no", ("A", [], [True, True])])

    def test_nothing(self):
        lost = ("step", "g", "here", "mayor", 0)
        for line in [("step", "h", "g", "friend", None), ("see", "g"), ("same", "g", "here"), ("same", "here", "g"),
                     ("same", "g", "g"), ("mark", "g", "age", 1), ("link", "g", "friend", None),
                     ("clear", "g", "parts"),
                     ("link", "a", "friend", "g"), ("mark", "g", "no", 1), ("link", "d", "stamp", "g"),
                     ("link", "a", "no", "g")]:
            self.assertEqual(self.told(lost, line, ("see", "a"), ("see", "here")),
                             ["none", "none"] + self.told(("see", "a"), ("see", "here")), line)
        # None in the place of a name holds nothing to link to, but is no name.
        self.assertEqual(self.told(("link", "a", "friend", None)), ["done"])

    def test_names_given_again(self):
        web = chain(NODE, "Node", "next", 3)
        lines = [("step", "a", "here", "next", None), ("step", "a", "a", "next", None), ("see", "a"),
                 ("step", "a", "a", "next", None), ("see", "a"), ("step", "a", "here", "next", None), ("see", "a")]
        self.assertEqual(run(lines, web), ["thing", "thing", ("Node", [0], [False, 0]), "none", "none", "thing",
                                           ("Node", [0], [True, 0])])

    def test_a_list_is_cleared_while_a_name_holds_one_of_its_things(self):
        web = node_web({"all": [1, 1]}, {"age": 7})
        lines = [("step", "a", "here", "all", 1), ("clear", "here", "all"), ("see", "a"), ("mark", "a", "age", 8),
                 ("see", "a"), ("link", "here", "next", "a"), ("step", "b", "here", "next", None), ("same", "a", "b")]
        self.assertEqual(run(lines, web), ["thing", "done", ("Node", [7], [False, 0]), "done",
                                           ("Node", [8], [False, 0]), "done", "thing", True])

    def test_a_name_goes_on_holding(self):
        web = node_web({"next": 1}, {"age": 1}, {"age": 2}, old=2)
        lines = [("step", "a", "here", "next", None), ("link", "here", "next", "old"), ("see", "a"),
                 ("step", "b", "here", "next", None), ("see", "b"), ("same", "b", "old")]
        self.assertEqual(run(lines, web), ["thing", "done", ("Node", [1], [False, 0]), "thing",
                                           ("Node", [2], [False, 0]), True])

    def test_a_thing_that_is_seen_through_two_names(self):
        web = node_web({"next": 1, "all": [1]}, {})
        lines = [("step", "a", "here", "next", None), ("step", "b", "here", "all", 0), ("mark", "a", "age", 4),
                 ("see", "b"), ("link", "b", "next", "here"), ("step", "c", "a", "next", None), ("same", "c", "here")]
        self.assertEqual(run(lines, web)[2:], ["done", ("Node", [4], [False, 0]), "done", "thing", True])

    def test_the_web_stays_as_it_was(self):
        web = town_web()
        run([("mark", "here", "size", 8), ("clear", "here", "parts"), ("link", "here", "mayor", None)], web)
        self.assertEqual(web, town_web())

    def test_errors(self):
        for value in any_values():
            if value not in ([], ()):
                self.assertEqual(raised(BadClient, run, value, town_web()).line,
                                 0 if isinstance(value, (list, tuple)) else -1)
        self.assertEqual(raised(BadClient, run, [("see", "here")] * 201, town_web()).line, 200)
        lines = [("see", "here"), ("step", "a", "old", "f", None), ("see", "old")]
        self.assertEqual(raised(BadClient, run, lines, town_web()).line, 1)
        for line in [("see", "old"), ("same", "old", "here"), ("same", "here", "old"), ("mark", "old", "f", 1),
                     ("link", "old", "f", None), ("link", "here", "f", "old"), ("clear", "old", "f")]:
            self.assertEqual(raised(BadClient, run, [("see", "here"), line], town_web()).line, 1)
            self.assertEqual(len(run([line], town_web().rooted(0, old=1))), 1)
        # What check refuses comes first, also in a later line; the name of a field is no place of a name.
        self.assertEqual(raised(BadClient, run, [("see", "old"), ("see", "x")], town_web()).line, 1)
        self.assertEqual(run([("step", "a", "here", "old", None)], town_web()), ["none"])


class TestFirstDifference(unittest.TestCase):
    def test_the_first_line(self):
        first = node_web({"next": 1}, {"age": 1})
        second = node_web({"next": 1}, {"age": 2})
        lines = [("see", "here"), ("step", "a", "here", "next", None), ("see", "a"), ("see", "here"), ("see", "a")]
        self.assertEqual(first_difference(lines, first, second), 2)
        self.assertEqual(first_difference(client=tuple(lines[:3]), first=first, second=second), 2)
        self.assertIsNone(first_difference(lines[:2], first, second))
        self.assertIsNone(first_difference(lines, first, first))
        self.assertIsNone(first_difference([], first, second))
        self.assertEqual(first_difference([("step", "a", "here", "next", None)], first, node_web({})), 0)
        torn = node_web({"next": 1, "all": [2]}, {}, {})
        one = node_web({"next": 1, "all": [1]}, {})
        lines = [("step", "a", "here", "next", None), ("step", "b", "here", "all", 0), ("same", "a", "b")]
        self.assertEqual(first_difference(lines, one, torn), 2)
        house = House("A", [Kind("A", []), Kind("B", [])])
        self.assertEqual(first_difference([("see", "here")], Web(house, [("A", {})]), Web(house, [("B", {})])), 0)

    def test_errors(self):
        web = node_web({})
        with_old = node_web({}, old=0)
        lines = [("see", "here"), ("see", "old")]
        self.assertEqual(raised(BadClient, first_difference, lines, web, with_old).line, 1)
        self.assertEqual(raised(BadClient, first_difference, lines, with_old, web).line, 1)
        self.assertIsNone(first_difference(lines, with_old, with_old))
        self.assertEqual(raised(BadClient, first_difference, [("see", "x")], web, web).line, 0)
        self.assertEqual(raised(BadClient, first_difference, None, web, web).line, -1)


class TestCutClients(unittest.TestCase):
    def setUp(self):
        self.chance = random.Random(11)

    def test_the_last_tell_of_the_cut_client(self):
        for _ in range(300):
            web = some_web(self.chance, self.chance.randrange(1, 6), old=True)
            client = some_client(self.chance, 9, Manners("ask", "old", "set"))
            tells = run(client, web)
            for line in range(len(client)):
                self.assertEqual(run(cut(client, line), web)[-1], tells[line])

    def test_a_client_that_tells_two_webs_apart(self):
        found = 0
        for _ in range(300):
            first = some_web(self.chance, 3, old=True)
            second = first.with_value(self.chance.randrange(3), "age", 5)
            client = some_client(self.chance, 8, Manners("ask", "old", "set"))
            line = first_difference(client, first, second)
            if line is not None:
                shorter = cut(client, line)
                self.assertEqual(first_difference(shorter, first, second), len(shorter) - 1)
                self.assertIsNone(first_difference(shorter[:-1], first, second))
                found += 1
        self.assertGreater(found, 30)

    def test_trimmed_and_numbered_in_another_way(self):
        for _ in range(200):
            web = some_web(self.chance, self.chance.randrange(1, 7), old=True)
            client = some_client(self.chance, 10, Manners("ask", "old", "set"))
            self.assertEqual(run(client, web.trimmed()), run(client, web))
            self.assertEqual(run(client, shuffled(self.chance, web)), run(client, web))


class TestSession(unittest.TestCase):
    def test_line_by_line(self):
        web = node_web({"next": 1, "all": [0, 1]}, {"age": 3}, old=1)
        session = Session(web=web)
        self.assertEqual((session.count, session.held_names()), (0, ["here", "old"]))
        steps = [
            (("step", "b", "here", "next", None), "thing", ["b", "here", "old"]),
            (("mark", "b", "age", 9), "done", ["b", "here", "old"]),
            (("step", "a", "here", "all", 5), "none", ["b", "here", "old"]),
            (("step", "a", "b", "next", None), "none", ["b", "here", "old"]),
            (("link", "b", "next", "here"), "done", ["b", "here", "old"]),
            (("step", "a", "b", "next", None), "thing", ["a", "b", "here", "old"]),
            (("same", "a", "here"), True, ["a", "b", "here", "old"]),
            (("clear", "here", "all"), "done", ["a", "b", "here", "old"]),
            (("step", "b", "a", "all", 0), "none", ["a", "here", "old"]),
            (("see", "b"), "none", ["a", "here", "old"]),
            (("link", "a", "no", None), "no", ["a", "here", "old"]),
        ]
        for at, (line, tell, names) in enumerate(steps):
            self.assertEqual(session.do(line=line), tell)
            self.assertEqual((session.count, session.held_names()), (at + 1, names))
        self.assertEqual(session.web_now(), node_web({"next": 1}, {"age": 9, "next": 0}, old=1))
        self.assertEqual(web, node_web({"next": 1, "all": [0, 1]}, {"age": 3}, old=1))
        self.assertEqual((session.holds("a"), session.holds("b"), session.holds(name="old")), (0, None, 1))

    def test_holds(self):
        session = Session(town_web())
        session.do(("step", "a", "here", "mayor", None))
        self.assertEqual((session.holds("a"), session.holds("here"), session.holds("old")), (1, 0, None))
        for value in any_values() + ["x", "b"]:
            self.assertIsNone(session.holds(value))
        self.assertEqual(session.held_names(), ["a", "here"])
        session.held_names().clear()
        self.assertEqual(session.held_names(), ["a", "here"])

    def test_what_is_refused_changes_nothing(self):
        session = Session(town_web())
        session.do(("step", "a", "here", "mayor", None))
        session.do(("mark", "a", "age", 1))
        now = session.web_now()
        for line in any_values() + [("see", "b"), ("see", "old"), ("same", "a", "old"), ("step", "b", "old", "x", None),
                                    ("step", "here", "a", "friend", None), ("step", "c", "b", "friend", None),
                                    ["see", "here"], ("mark", "a", "age", 10 ** 30), ("mark", "a", "age", True),
                                    ("link", "a", "friend", "b"), ("link", "a", "friend", "old"), ("no",)]:
            self.assertEqual(raised(BadClient, session.do, line).line, 2)
            self.assertEqual((session.count, session.held_names()), (2, ["a", "here"]))
            self.assertEqual(session.web_now(), now)
        self.assertEqual(session.do(("see", "a")), ("Person", [1], [True]))

    def test_the_200th_and_the_201st_line(self):
        session = Session(node_web({}))
        for at in range(200):
            self.assertEqual(session.do(("mark", "here", "age", at)), "done")
        self.assertEqual(session.count, 200)
        self.assertEqual(raised(BadClient, session.do, ("see", "here")).line, 200)
        self.assertEqual(raised(BadClient, session.do, None).line, 200)
        self.assertEqual(raised(BadClient, session.tried, [("see", "here")]).line, 200)
        self.assertEqual(session.tried([]), [])
        self.assertEqual((session.count, session.web_now()[0, "age"]), (200, 199))

    def test_tried_lines(self):
        web = node_web({"next": 1, "all": [0, 1]}, {"age": 3})
        session = Session(web)
        session.do(("step", "a", "here", "next", None))
        session.do(("mark", "a", "age", 5))
        lines = [("mark", "a", "age", 6), ("see", "a"), ("step", "b", "a", "next", None), ("clear", "here", "all"),
                 ("link", "a", "next", "here"), ("step", "a", "a", "next", None), ("see", "a")]
        tells = ["done", ("Node", [6], [False, 0]), "none", "done", "done", "thing", ("Node", [0], [True, 0])]
        for given in (lines, tuple(lines)):
            self.assertEqual(session.tried(given), tells)
            self.assertEqual((session.count, session.held_names(), session.holds("a")), (2, ["a", "here"], 1))
            self.assertEqual(session.web_now(), node_web({"next": 1, "all": [0, 1]}, {"age": 5}))
            # A name that only tried lines gave is not known.
            self.assertEqual(raised(BadClient, session.do, ("see", "b")).line, 2)
        self.assertEqual(session.tried(lines=[]), [])
        self.assertEqual(session.tried([("see", "a")]), [("Node", [5], [False, 0])])
        self.assertEqual([session.do(line) for line in lines], tells)
        self.assertEqual(session.count, 9)

    def test_tried_lines_that_are_refused_in_the_middle(self):
        session = Session(node_web({"next": 0}))
        session.do(("mark", "here", "age", 5))
        for wrong in any_values() + [("see", "b"), ("see", "old")]:
            lines = [("mark", "here", "age", 6), ("step", "a", "here", "next", None), wrong, ("see", "here")]
            self.assertEqual(raised(BadClient, session.tried, lines).line, 3)
            self.assertEqual((session.count, session.held_names()), (1, ["here"]))
            self.assertEqual(session.web_now()[0, "age"], 5)
        self.assertEqual(session.do(("see", "here")), ("Node", [5], [True, 0]))

    def test_tried_lines_and_the_bound(self):
        session = Session(node_web({}))
        for _ in range(150):
            session.do(("see", "here"))
        self.assertEqual(len(session.tried([("see", "here")] * 50)), 50)
        self.assertEqual(raised(BadClient, session.tried, [("see", "here")] * 51).line, 200)
        self.assertEqual(session.count, 150)

    def test_old(self):
        with_old = Session(node_web({}, {"age": 1}, old=1))
        self.assertEqual(with_old.do(("see", "old")), ("Node", [1], [False, 0]))
        without = Session(node_web({}))
        self.assertEqual(raised(BadClient, without.do, ("see", "old")).line, 0)
        self.assertEqual(raised(BadClient, without.tried, [("see", "here"), ("see", "old")]).line, 1)

    def test_it_tells_what_a_run_tells(self):
        chance = random.Random(3)
        for _ in range(100):
            web = some_web(chance, 4, old=True)
            client = some_client(chance, 12, Manners("ask", "old", "set"))
            session = Session(web)
            self.assertEqual([session.do(line) for line in client], run(client, web))
            self.assertEqual(Session(web).tried(client), run(client, web))

    def test_web_now_is_new(self):
        session = Session(chain(NODE, "Node", "next", 3000, ring=True))
        session.do(("step", "a", "here", "next", None))
        session.do(("link", "a", "next", None))
        self.assertEqual(session.web_now().reached(), [0, 1])
        session.do(("mark", "a", "age", 3))
        now = session.web_now()
        session.do(("mark", "a", "age", 4))
        self.assertEqual(now[1, "age"], 3)
        self.assertEqual((now.here, now.old), (0, None))

    def test_sessions_are_equal_to_themselves_only(self):
        session = Session(node_web({}))
        self.assertEqual(session, session)
        self.assertNotEqual(session, Session(node_web({})))


if __name__ == "__main__":
    unittest.main()
