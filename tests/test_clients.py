"""[2.2], [2.3], [2.6], [2.8]: clients, what they need, cutting them, their texts."""

import random
import unittest

from tests.plain import some_client
from tests.samples import any_values, raised
from waypairs.clients import check, client_text, cut, needed, read_client
from waypairs.errors import BadClient, BadText
from waypairs.manners import Manners

NOT_NAMES = ["", "A", "abcdefg", "a1", "a b", "a\n", "Here", None, True, 0, ["a"], ("a",), "-"]
UNKNOWN = ["x", "zzzzzz"]
NOT_FIELDS = ["", "A", "abcdefghi", "a1", None, True, 0, ["a"], ("a",), "a "]
STEP = ("step", "a", "here", "f", None)


class TestCheck(unittest.TestCase):
    def right(self, *lines):
        self.assertIsNone(check(list(lines)))
        self.assertIsNone(check(lines))
        self.assertIsNone(check(client=list(lines)))

    def wrong(self, line, *lines):
        for client in (list(lines), lines):
            error = raised(BadClient, check, client)
            self.assertEqual((error.line, type(error.line)), (line, int), client)

    def test_no_list(self):
        for value in any_values():
            if isinstance(value, (list, tuple)):
                self.assertIn(value, ([], ())) if not value else self.wrong(0, *value)
            else:
                self.assertEqual(raised(BadClient, check, value).line, -1)
        self.right()

    def test_no_line(self):
        for value in any_values() + [("see",), ("no", "here"), ["see", "here"], "see", ("see", "here", "here"),
                                     ("same", "here"), ("same", "here", "old", "old"), ("step", "a", "here", "f"),
                                     ("step", "a", "here", "f", None, None), ("mark", "here", "f"),
                                     ("link", "here", "f"),
                                     ("clear", "here"), ("clear", "here", "f", None), ("mark", "here", "f", 1, 2),
                                     ("link", "here", "f", None, None), (["see"], "here"), (None, "here"),
                                     ("See", "here"), ("", "here")]:
            self.wrong(0, value)
            self.wrong(1, ("see", "here"), value, ("see", "here"))

    def test_step_lines(self):
        for name in ["a", "abcdef", "zzzzzz", "step", "see"]:
            self.right(("step", name, "here", "f", None), ("see", name))
        self.right(("step", "a", "old", "abcdefgh", 0), ("step", "a", "a", "f", 10 ** 30), ("see", "a"))
        for name in NOT_NAMES + ["here", "old"] + any_values():
            self.wrong(0, ("step", name, "here", "f", None))
        for name in NOT_NAMES + UNKNOWN + any_values() + ["a"]:
            self.wrong(0, ("step", "a", name, "f", None))
        for field in NOT_FIELDS + any_values():
            self.wrong(0, ("step", "a", "here", field, None))
        for place in [-1, 10 ** 30 + 1, True, False, "0", [0], (), (0,), 0.0]:
            self.wrong(0, ("step", "a", "here", "f", place))
        for place in any_values():
            if place is not None:
                self.wrong(0, ("step", "a", "here", "f", place))

    def test_see_and_same_lines(self):
        self.right(("see", "here"), ("see", "old"), ("same", "here", "old"), ("same", "old", "old"))
        self.right(STEP, ("same", "a", "here"), ("same", "here", "a"))
        for name in NOT_NAMES + UNKNOWN + any_values():
            self.wrong(0, ("see", name))
            self.wrong(0, ("same", name, "here"))
            self.wrong(1, STEP, ("same", "a", name))

    def test_mark_lines(self):
        for number in [0, -1, 10 ** 30 - 1, 1 - 10 ** 30]:
            self.right(("mark", "here", "abcdefgh", number))
        for number in [10 ** 30, -10 ** 30, True, False, None, "1", [1]]:
            self.wrong(0, ("mark", "here", "f", number))
        for value in any_values():
            if value != -1:
                self.wrong(0, ("mark", "here", "f", value))
            self.wrong(0, ("mark", value, "f", 1))
            self.wrong(0, ("mark", "here", value, 1))
        for name in NOT_NAMES + UNKNOWN:
            self.wrong(0, ("mark", name, "f", 1))
        for field in NOT_FIELDS:
            self.wrong(0, ("mark", "here", field, 1))

    def test_link_and_clear_lines(self):
        self.right(("link", "here", "f", None), ("link", "old", "abcdefgh", "here"), ("clear", "old", "f"))
        for name in NOT_NAMES + UNKNOWN + any_values():
            self.wrong(0, ("link", name, "f", None))
            self.wrong(0, ("clear", name, "f"))
            if name is not None:
                self.wrong(1, STEP, ("link", "a", "f", name))
        for field in NOT_FIELDS + any_values():
            self.wrong(0, ("link", "here", field, None))
            self.wrong(0, ("clear", "here", field))

    def test_names_that_become_known_later(self):
        self.wrong(0, ("see", "a"), STEP)
        self.right(STEP, ("see", "a"))
        self.wrong(0, ("link", "here", "f", "a"), STEP)
        self.wrong(1, ("see", "here"), ("same", "here", "a"), STEP)
        # A name is not yet known in the line that makes it known.
        self.wrong(0, ("step", "a", "a", "f", None))
        # Only the second place of a step line makes a name known.
        self.wrong(1, ("step", "b", "here", "a", None), ("see", "a"))

    def test_number_of_lines(self):
        see = ("see", "here")
        self.right(*[see] * 200)
        self.wrong(200, *[see] * 201)
        self.wrong(200, *[see] * 5000)
        self.wrong(200, *[see] * 200, ("no",))
        self.wrong(199, *[see] * 199, ("no",), see)
        self.wrong(3, see, see, see, ("no",), *[see] * 300)

    def test_the_first_wrong_line(self):
        self.wrong(1, STEP, ("see", "b"), ("no",))


class TestNeeded(unittest.TestCase):
    def test_what_is_needed(self):
        for lines, names in [([], ()), ([STEP, ("see", "a")], ()), ([("same", "here", "here")], ("ask",)),
                             ([("mark", "here", "f", 1)], ("set",)), ([("link", "here", "f", None)], ("set",)),
                             ([("clear", "here", "f")], ("set",)), ([("see", "old")], ("old",)),
                             ([("step", "a", "old", "f", 3)], ("old",)), ([("same", "here", "old")], ("ask", "old")),
                             ([("same", "old", "here")], ("ask", "old")), ([("mark", "old", "f", 0)], ("old", "set")),
                             ([("link", "here", "f", "old")], ("old", "set")),
                             ([("link", "old", "f", "here")], ("old", "set")),
                             ([("clear", "old", "f")], ("old", "set")),
                             ([("see", "old"), ("same", "here", "here"), ("clear", "here", "f")],
                              ("ask", "old", "set"))]:
            self.assertEqual(needed(lines).names, names)
            self.assertEqual(needed(client=tuple(lines)), Manners(*names))

    def test_old_in_other_places(self):
        for line in [("step", "a", "here", "old", None), ("mark", "here", "old", 1), ("link", "here", "old", None),
                     ("clear", "here", "old")]:
            self.assertNotIn("old", needed([line]))
        self.assertEqual(needed([("step", "a", "here", "old", None)]), Manners())

    def test_errors(self):
        for value in any_values():
            if value not in ([], ()):
                line = raised(BadClient, check, value).line
                self.assertEqual(raised(BadClient, needed, value).line, line)
                self.assertEqual(raised(BadClient, client_text, value).line, line)
                self.assertEqual(raised(BadClient, cut, value, -5).line, line)
        self.assertEqual(raised(BadClient, needed, [("see", "here")] * 201).line, 200)
        self.assertEqual(raised(BadClient, client_text, [STEP, ("see", "b")]).line, 1)


class TestCut(unittest.TestCase):
    CLIENT = [
        ("step", "a", "here", "f", None),       # 0
        ("see", "a"),                           # 1
        ("step", "b", "a", "g", 2),             # 2
        ("mark", "here", "m", 4),               # 3
        ("same", "a", "b"),                     # 4
        ("link", "a", "f", "b"),                # 5
        ("step", "b", "b", "f", None),          # 6
        ("clear", "old", "h"),                  # 7
        ("step", "c", "here", "f", None),       # 8
        ("mark", "b", "m", 5),                  # 9
        ("link", "c", "f", None),               # 10
        ("same", "b", "old"),                   # 11
        ("see", "b"),                           # 12
    ]

    def kept(self, line):
        found = cut(self.CLIENT, line)
        self.assertIsInstance(found, list)
        places, at = [], 0
        for one in found[:-1]:
            while self.CLIENT[at] != one:
                at += 1
            places.append(at)
            at += 1
        self.assertEqual(found[-1], self.CLIENT[line])
        return places

    def test_each_line(self):
        # A step line keeps the links and clears before it, but no mark; what these name is wanted then.
        self.assertEqual(self.kept(0), [])
        self.assertEqual(self.kept(1), [0])
        self.assertEqual(self.kept(2), [0])
        self.assertEqual(self.kept(3), [])
        self.assertEqual(self.kept(4), [0, 2])
        self.assertEqual(self.kept(5), [0, 2])
        self.assertEqual(self.kept(6), [0, 2, 5])
        self.assertEqual(self.kept(7), [])
        self.assertEqual(self.kept(8), [0, 2, 5, 7])
        # Behind the step line to b all links and clears are left out of what a mark line needs.
        self.assertEqual(self.kept(9), [0, 2, 5, 6])
        self.assertEqual(self.kept(10), [0, 2, 5, 7, 8])
        self.assertEqual(self.kept(11), [0, 2, 5, 6])
        self.assertEqual(self.kept(12), [0, 2, 3, 5, 6, 7, 8, 9, 10])

    def test_marks_are_kept_for_a_see_line_alone(self):
        client = [("mark", "here", "m", 1), ("link", "here", "f", None), ("clear", "here", "g")]
        for last, places in [(("see", "here"), [0, 1, 2]), (("step", "a", "here", "f", None), [1, 2]),
                             (("same", "here", "here"), []), (("mark", "here", "m", 2), []),
                             (("link", "here", "f", "here"), []), (("clear", "here", "f"), [])]:
            self.assertEqual(cut([*client, last], 3), [*[client[at] for at in places], last])

    def test_a_kept_step_keeps_what_stands_before_it(self):
        client = [("clear", "here", "g"), ("mark", "here", "m", 1), ("step", "a", "here", "f", None),
                  ("clear", "here", "g"), ("same", "a", "here")]
        self.assertEqual(cut(client, 4), [client[0], client[2], client[4]])

    def test_names_given_again(self):
        client = [("step", "a", "here", "f", None), ("step", "a", "here", "g", None), ("see", "a")]
        self.assertEqual(cut(client, 2), client[1:])
        self.assertEqual(cut(client, 1), client[1:2])
        client = [("step", "a", "here", "f", None), ("step", "a", "a", "g", None), ("see", "a")]
        self.assertEqual(cut(client, 2), client)
        self.assertEqual(cut(client, 1), client[:2])
        # The name of the last line itself, a step line, is not wanted.
        client = [("step", "a", "here", "f", None), ("step", "a", "here", "g", None)]
        self.assertEqual(cut(client, 1), client[1:])

    def test_names_wanted_by_links(self):
        client = [("step", "a", "here", "f", None), ("step", "b", "here", "g", None), ("link", "a", "f", "b"),
                  ("see", "here")]
        self.assertEqual(cut(client, 3), client)
        self.assertEqual(cut(client[:2] + [("mark", "a", "m", 3), ("see", "here")], 3),
                         [client[0], ("mark", "a", "m", 3), ("see", "here")])

    def test_it_is_a_new_list(self):
        client = [STEP, ("see", "a")]
        found = cut(client, 1)
        found.clear()
        self.assertEqual(client, [STEP, ("see", "a")])
        self.assertEqual(cut(tuple(client), line=0), [STEP])
        self.assertEqual(cut(client=client, line=1), client)

    def test_wrong_lines(self):
        for value in any_values() + [2, -1, -2, 0.0, "0"]:
            self.assertIs(raised(BadClient, cut, [STEP, ("see", "a")], value).line, value)
        self.assertIs(raised(BadClient, cut, [], 0).line, 0)
        self.assertEqual(raised(BadClient, cut, [("see", "a")], 7).line, 0)


TEXTS = [
    (("step", "a", "here", "f", None), "step a here f"),
    (("step", "abcdef", "old", "abcdefgh", 0), "step abcdef old abcdefgh 0"),
    (("step", "a", "here", "f", 10 ** 30), "step a here f 1" + "0" * 30),
    (("see", "here"), "see here"),
    (("same", "old", "here"), "same old here"),
    (("mark", "here", "m", -12), "mark here m -12"),
    (("mark", "here", "m", 10 ** 30 - 1), "mark here m " + "9" * 30),
    (("link", "here", "f", None), "link here f -"),
    (("link", "here", "f", "old"), "link here f old"),
    (("clear", "here", "f"), "clear here f"),
]


class TestTexts(unittest.TestCase):
    def test_word_by_word(self):
        for line, text in TEXTS:
            self.assertEqual(client_text([line]), text)
            self.assertEqual(client_text(client=(line,)), text)
            self.assertEqual(read_client(text), [line])
        self.assertEqual(client_text([line for line, _ in TEXTS]), "\n".join(text for _, text in TEXTS))
        self.assertEqual(read_client(text="\n".join(text for _, text in TEXTS)), [line for line, _ in TEXTS])

    def test_the_empty_client(self):
        self.assertEqual(client_text([]), "")
        self.assertEqual(client_text(()), "")
        self.assertEqual(read_client(""), [])

    def test_there_and_back(self):
        chance = random.Random(5)
        for _ in range(200):
            client = some_client(chance, chance.randrange(12), Manners("ask", "old", "set"))
            self.assertEqual(read_client(client_text(client)), client)
            self.assertIsInstance(read_client(client_text(client)), list)

    def test_no_string(self):
        for value in any_values():
            if not isinstance(value, str):
                self.assertEqual(raised(BadText, read_client, value).line, -1)
            elif value != "":
                self.assertEqual(raised(BadText, read_client, value).line, 0)

    def refused(self, line, text):
        self.assertEqual(raised(BadText, read_client, text).line, line, text)

    def test_wrong_forms(self):
        wrong = [" ", "no here", "See here", "see", "see ", " see here", "see here ", "see  here", "see here here",
                 "see A", "see abcdefg", "see -", "see a1", "same here", "same here  old", "same here old old",
                 "same here -", "step a here", "step a here f ", "step a here f 0 0", "step here here f",
                 "step old here f", "step a here F", "step a here abcdefghi", "step A here f", "step a - f",
                 "step a here f -", "step a here f None", "step abcdefg here f", "step a abcdefg f", "mark here m",
                 "mark here m -", "mark here m 1 1", "mark here M 1", "mark - m 1", "mark here m a", "link here f",
                 "link here f None", "link here f --", "link here f - -", "link here f A", "link - f here",
                 "link here F -", "clear here", "clear here F", "clear here f -", "clear - f", "client"]
        for number in ["-0", "01", "-01", "+1", "1.0", "", "00", "--1", "1_0", "0x1"]:
            wrong.extend(["mark here m " + number, "step a here f " + number])
        wrong.extend(["mark here m " + "9" * 31, "mark here m -" + "9" * 31, "mark here m 1" + "0" * 30,
                      "step a here f " + "9" * 32, "step a here f -" + "9" * 32, "step a here f 1" + "0" * 31])
        for line in wrong:
            self.refused(0, line)
            self.refused(1, "see here\n" + line)
            self.refused(1, "see here\n" + line + "\nno")
        self.refused(0, "\n")
        self.refused(0, "\nsee here")
        self.refused(1, "see here\n")
        self.refused(1, "see here\n\nsee here")

    def test_then_check_decides(self):
        for line, text in [(0, "see a"), (0, "step a a f"), (1, "see here\nsame here b\nstep b here f"),
                           (0, "link here f a"), (0, "step a here f -1"), (0, "step a here f 1" + "0" * 29 + "1"),
                           (0, "step a here f " + "9" * 31), (0, "step a here f -" + "9" * 31), (0, "mark a f 1"),
                           (0, "clear a f"), (200, "\n".join(["see here"] * 201)),
                           (200, "\n".join(["see here"] * 200 + ["see a"]))]:
            self.assertEqual(raised(BadClient, read_client, text).line, line)
        self.assertEqual(len(read_client("\n".join(["see here"] * 200))), 200)

    def test_the_first_wrong_form_comes_ahead_of_check(self):
        self.refused(1, "see a\nsee A")
        self.refused(201, "\n".join(["see here"] * 201 + [""]))


if __name__ == "__main__":
    unittest.main()
