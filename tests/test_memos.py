"""[4.5]: memos and their keys."""

import unittest

from waypairs.memos import Memo, memo_key


class TestKeys(unittest.TestCase):
    def test_each_rule(self):
        self.assertEqual(memo_key("itself", 4, "Node", [1, 2]), ("itself", 4))
        self.assertEqual(memo_key("marks", 4, "Node", [1, -2]), ("marks", "Node", (1, -2)))
        self.assertEqual(memo_key(rule="marks", thing=4, kind="Dot", marks=[]), ("marks", "Dot", ()))
        self.assertIsNone(memo_key("never", 4, "Node", [1]))

    def test_marks_are_copied(self):
        marks = [1]
        key = memo_key("marks", 0, "Node", marks)
        marks.append(2)
        self.assertEqual(key, ("marks", "Node", (1,)))
        self.assertIs(type(key[2]), tuple)


class TestMemo(unittest.TestCase):
    def test_empty(self):
        memo = Memo(number=3)
        self.assertEqual((memo.number, len(memo), memo.kept()), (3, 0, []))
        self.assertNotIn(("itself", 0), memo)
        self.assertIsNone(memo.known(("itself", 0)))

    def test_keeping(self):
        memo = Memo(0)
        key, other = ("marks", "Node", (1, 10 ** 29)), ("itself", 2)
        self.assertIsNone(memo.keep(key, 9))
        self.assertIsNone(memo.keep(key=other, new=0))
        self.assertEqual((len(memo), memo.known(key), memo.known(other)), (2, 9, 0))
        self.assertIn(key, memo)
        self.assertIn(other, memo)
        for unknown in [("marks", "Node", (1,)), ("marks", "Nodes", (1, 10 ** 29)), ("itself", 9), ("itself", 0)]:
            self.assertNotIn(unknown, memo)
            self.assertIsNone(memo.known(unknown))

    def test_a_key_kept_again_keeps_its_number(self):
        memo = Memo(0)
        memo.keep(("itself", 1), 5)
        self.assertIsNone(memo.keep(("itself", 1), 6))
        self.assertEqual((memo.known(("itself", 1)), len(memo)), (5, 1))

    def test_no_key(self):
        memo = Memo(0)
        self.assertIsNone(memo.keep(None, 5))
        self.assertEqual((len(memo), memo.kept()), (0, []))
        self.assertNotIn(None, memo)
        self.assertIsNone(memo.known(None))

    def test_kept(self):
        memo = Memo(0)
        keys = [("itself", 3), ("marks", "A", (0,)), ("itself", 1), ("marks", "A", ())]
        for at, key in enumerate(keys):
            memo.keep(key, 10 - at)
        memo.keep(keys[0], 99)
        kept = memo.kept()
        self.assertEqual(kept, [(keys[0], 10), (keys[1], 9), (keys[2], 8), (keys[3], 7)])
        self.assertTrue(all(type(pair) is tuple for pair in kept))
        kept.clear()
        self.assertEqual(len(memo.kept()), 4)

    def test_equal_to_itself_only(self):
        memo = Memo(0)
        self.assertEqual(memo, memo)
        self.assertNotEqual(memo, Memo(0))


if __name__ == "__main__":
    unittest.main()
