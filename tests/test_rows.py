"""[6.4]: rows."""

import unittest

from tests.samples import any_values, mark, node_house, raised
from waypairs.errors import BadRow
from waypairs.kinds import House, Kind
from waypairs.rows import Row
from waypairs.travels import Travel


def house(name):
    """Editions of one house, told apart by the name of a field; each call makes another object."""
    return House("A", [Kind("A", [mark(name)])])


def there(writer, reader):
    return Travel(house(writer), reader=house(reader))


COPY = Travel(house("a"))


class TestMaking(unittest.TestCase):
    def test_one_to_four(self):
        for count in range(1, 5):
            for travels in ([COPY] * count, (COPY,) * count):
                row = Row(travels=travels)
                self.assertEqual((row.travels, row.size, len(row)), ((COPY,) * count, count, count))
                self.assertEqual(row.home, house("a"))
                self.assertEqual(list(row), [COPY] * count)
                self.assertEqual(row.houses(), [house("a")] * (count + 1))

    def test_none_and_five(self):
        for count in (0, 5, 6, 9):
            self.assertEqual(raised(BadRow, Row, [COPY] * count).travel, 0)
            self.assertEqual(raised(BadRow, Row, (COPY,) * count).travel, 0)
        self.assertEqual(raised(BadRow, Row, [there("a", "b")] * 5).travel, 0)

    def test_houses_that_are_made_apart(self):
        row = Row([there("a", "b"), Travel(house("b")), there("b", "c"), there("c", "a")])
        self.assertEqual(row.houses(), [house("a"), house("b"), house("b"), house("c"), house("a")])
        self.assertEqual(row.home, house("a"))

    def test_travels_that_do_not_follow(self):
        ab, ba, bc = there("a", "b"), there("b", "a"), there("b", "c")
        for travels, wrong in [([ab, ab], 2), ([ab, COPY], 2), ([COPY, ba], 2), ([ab, bc, ba], 3), ([ab, ba, ba], 3),
                               ([ab, ba, ab, COPY], 4), ([ab, ab, ab, ab], 2), ([ab, bc, bc, ab], 3)]:
            self.assertEqual(raised(BadRow, Row, travels).travel, wrong)

    def test_the_last_target(self):
        ab, ba, bc = there("a", "b"), there("b", "a"), there("b", "c")
        for travels in ([ab], [ab, bc], [COPY, ab], [ab, ba, ab], [COPY, COPY, ab, bc], [ba]):
            self.assertEqual(raised(BadRow, Row, travels).travel, len(travels))
        # One that does not follow comes first.
        self.assertEqual(raised(BadRow, Row, [ab, ab, bc]).travel, 2)

    def test_the_list_is_copied(self):
        travels = [COPY, COPY]
        row = Row(travels)
        travels.append(there("a", "b"))
        self.assertEqual((len(row), row.travels), (2, (COPY, COPY)))
        row.houses().clear()
        row.cut(2).clear()
        self.assertEqual((len(row.houses()), len(row.cut(2))), (3, 2))


class TestRow(unittest.TestCase):
    def setUp(self):
        self.travels = [there("a", "b"), Travel(house("b")), there("b", "a")]
        self.row = Row(self.travels)

    def test_items(self):
        for k in (1, 2, 3):
            self.assertIs(self.row[k], self.travels[k - 1])
        for value in any_values() + [0, -1, 4, -3, "1", (1,), (1, 2), [1], slice(1, 2), 10 ** 40 - 1]:
            self.assertIs(raised(BadRow, lambda: self.row[value]).travel, value)

    def test_walking_over_it(self):
        self.assertEqual([travel for travel in self.row], self.travels)
        self.assertEqual(list(enumerate(self.row, 1)), [(k, self.row[k]) for k in (1, 2, 3)])

    def test_cut(self):
        for k in range(4):
            self.assertEqual(self.row.cut(k=k), self.travels[:k])
        for value in any_values() + [-1, 4, "1", (1,)]:
            self.assertIs(raised(BadRow, self.row.cut, value).travel, value)

    def test_equality(self):
        self.assertEqual(self.row, Row(tuple(self.travels)))
        self.assertNotEqual(self.row, Row(self.travels[:1] + self.travels[2:]))
        self.assertNotEqual(self.row, Row([self.travels[0], Travel(house("b"), rules={"A": "never"}), self.travels[2]]))
        self.assertNotEqual(self.row, self.travels)
        self.assertNotEqual(self.row, tuple(self.travels))

    def test_put_together(self):
        one = Row([COPY])
        both = self.row >> one
        self.assertEqual(both, Row([*self.travels, COPY]))
        self.assertEqual((one >> self.row).travels, (COPY, *self.travels))
        self.assertEqual((len(self.row), len(one)), (3, 1))
        self.assertEqual(raised(BadRow, lambda: self.row >> self.row).travel, 0)
        self.assertEqual(raised(BadRow, lambda: both >> one).travel, 0)
        other = Row([Travel(house("b"))])
        self.assertEqual(raised(BadRow, lambda: self.row >> other).travel, 4)
        self.assertEqual(raised(BadRow, lambda: other >> self.row).travel, 2)
        self.assertEqual(raised(BadRow, lambda: Row([Travel(node_house())]) >> one).travel, 2)


if __name__ == "__main__":
    unittest.main()
