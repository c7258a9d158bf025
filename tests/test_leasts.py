"""The least value and the first point ([9], [10])."""

import unittest

from pointorstrip.errors import BadNumber, TooLarge
from pointorstrip.judging import judge
from pointorstrip.leasts import First, Least, first, least
from pointorstrip.papers import Empty, Endless, Point, Thin
from pointorstrip.regions import Region
from trying import (
    box_rows, check_equality, generator, points_of, refutes, some_rows, some_turn,
)


class LeastTest(unittest.TestCase):
    def check(self, rows, u, v):
        """least(region, u, v), held against all that the document says of it."""
        region = Region(rows)
        found = least(region, u, v)
        if isinstance(found, Least):
            self.assertTrue(found)
            self.assertTrue(region.has(found.x, found.y))
            self.assertEqual(u * found.x + v * found.y, found.value)
            self.assertTrue(refutes(found.against, list(rows) + [(u, v, found.value - 1)]))
            self.assertIs(found.shows(region, u, v), True)
        elif isinstance(found, Endless):
            self.assertTrue(found.shows(region))
            self.assertLess(u * found.d + v * found.e, 0)
        else:
            self.assertTrue(refutes(found, rows))
        return found

    def test_by_hand(self):
        self.assertEqual(self.check([(-1, 0, 0), (0, -1, 0)], 3, 5).value, 0)
        self.assertEqual(self.check([(-1, -1, -1), (-1, 0, 0), (0, -1, 0)], 3, 5).value, 3)
        self.assertIsInstance(self.check([(-1, 0, 0), (0, -1, 0)], 3, -5), Endless)
        self.assertIsInstance(self.check([], 0, 1), Endless)
        self.assertIsInstance(self.check([], -3, 0), Endless)
        # Nothing can be below 0 x + 0 y.
        nothing = self.check([], 0, 0)
        self.assertEqual((nothing.value, nothing.against), (0, Empty([1])))
        self.assertEqual(self.check([(1, 0, 5)], 0, 0).value, 0)
        self.assertIsInstance(self.check([(0, 0, -1)], 0, 0), Empty)
        # u and v with a common divisor; values along a line.
        self.assertEqual(self.check([(-1, 0, -1), (0, -1, -1)], 6, 10).value, 16)
        self.assertEqual(self.check([(7, 12, 5), (-7, -12, -5), (-1, 0, 0)], 1, 0).value, 11)
        self.assertEqual(self.check([(7, 12, 5), (-7, -12, -5)], 7, 12).value, 5)
        self.assertIsInstance(self.check([(7, 12, 5), (-7, -12, -5)], 1, 0), Endless)
        # Without a whole point, though lesser values go on for ever.
        self.assertIsInstance(self.check([(2, 4, 1), (-2, -4, -1)], 1, 0), Thin)
        self.assertIsInstance(self.check([(1, 0, 0), (-1, 0, -1)], 0, 1), Empty)
        # Far off the least value of fractions.
        self.assertEqual(self.check([(-5, 7, 0), (5, -8, -1)], 1, 0).value, 3)
        found = self.check([(-1000, 1001, 0), (1001, -1003, -1)], 1, 0)
        self.assertEqual((found.x, found.y), (502, 501))

    def test_against_going_through(self):
        chance = generator(21)
        for _ in range(700):
            size = chance.randint(1, 8)
            rows = some_rows(chance) + box_rows(size)
            points = points_of(Region(rows), size)
            for _ in range(2):
                u, v = chance.randint(-9, 9), chance.randint(-9, 9)
                found = self.check(rows, u, v)
                if points:
                    self.assertEqual(found.value, min([u * x + v * y for x, y in points]))
                else:
                    self.assertIn(type(found), (Thin, Empty))

    def test_without_end(self):
        chance = generator(22)
        kinds = {Least: 0, Endless: 0, Thin: 0, Empty: 0}
        for _ in range(1000):
            rows = some_rows(chance)
            u, v = chance.randint(-9, 9), chance.randint(-9, 9)
            found = self.check(rows, u, v)
            kinds[type(found)] += 1
            if isinstance(found, Least):
                for x, y in points_of(Region(rows), 6):
                    self.assertLessEqual(found.value, u * x + v * y)
            elif isinstance(found, Endless):
                lower = least(Region(rows + [(u, v, -10 ** 20)]), u, v)
                self.assertIsInstance(lower, Endless)
            else:
                self.assertFalse(judge(Region(rows)))
        self.assertGreater(min(kinds.values()), 20)

    def test_long_numbers(self):
        chance = generator(23)
        most = 10 ** 40 - 1
        for _ in range(40):
            a, b, c = [chance.randint(1, most) for _ in range(3)]
            wide = chance.choice([0, 1, 10 ** 6, 10 ** 20])
            rows = [(a, b, c), (-a, -b, min(most, wide - c)), (-1, 0, 0), (0, -1, most)]
            self.check(rows, *[chance.randint(-most, most) for _ in range(2)])
            self.check(rows, 1, 0)
            rows = [tuple(chance.randint(-most, most) for _ in range(3)) for _ in range(40)]
            self.check(rows, *[chance.randint(-most, most) for _ in range(2)])

    def test_turned_about(self):
        chance = generator(24)
        for _ in range(100):
            rows = some_rows(chance) + box_rows(chance.randint(1, 8))
            u, v = chance.randint(-9, 9), chance.randint(-9, 9)
            plain = self.check(rows, u, v)
            turn = some_turn(chance, 10 ** 15)
            p, q, c = turn.row((u, v, 0))
            turned = self.check(turn.region(Region(rows)).rows, p, q)
            if isinstance(plain, Least):
                self.assertEqual(turned.value, plain.value + c)
            else:
                self.assertEqual(type(turned), type(plain))

    def test_shows(self):
        rows = [(-2, -1, -3), (-1, -3, -4), (1, 1, 9)]
        region = Region(rows)
        found = least(region, 2, 3)
        value, x, y, against = found.value, found.x, found.y, found.against
        self.assertEqual((value, x, y), (5, 1, 1))
        self.assertIs(Least(value, x, y, against).shows(region, 2, 3), True)
        self.assertIs(Least(value, x, y, against).shows(region, 3, 2), False)
        self.assertIs(Least(value + 1, x, y, against).shows(region, 2, 3), False)
        self.assertIs(Least(value - 1, x, y, against).shows(region, 2, 3), False)
        self.assertIs(Least(value, -2, 3, against).shows(region, 2, 3), False)
        self.assertIs(Least(value, x, y, Point(x, y)).shows(region, 2, 3), False)
        self.assertIs(Least(value, x, y, Thin(1, 0)).shows(region, 2, 3), False)
        self.assertIs(Least(value, x, y, None).shows(region, 2, 3), False)
        # A point in the region that is not the least, with any paper.
        for paper in (against, Thin(1, 0), Thin(0, 1), Thin(2, 3), Point(1, 1)):
            self.assertIs(Least(6, 3, 0, paper).shows(region, 2, 3), False)
            self.assertIs(Least(8, 1, 2, paper).shows(region, 2, 3), False)
        # The row that is put last is told as it is.
        half = Region([(-1, 0, 0)])
        self.assertIs(Least(0, 0, 7, Empty([1, 1])).shows(half, 1, 0), True)
        self.assertIs(Least(0, 0, 7, Empty([1, 0])).shows(half, 1, 0), False)
        self.assertIs(Least(0, 0, 7, Empty([1, 1, 1])).shows(half, 1, 0), False)

    def test_shows_for_large_regions(self):
        long = 10 ** 400
        region = Region([(0, 0, 1)] * 90 + [(-long, 0, -long ** 2)])
        told = Least(2 * long, long, 5, Empty([0] * 90 + [2, long]))
        self.assertIs(told.shows(region, 2, 0), True)
        self.assertIs(told.shows(region, 3, 0), False)

    def test_equality(self):
        arguments = [1, 2, 3, Empty([1])]
        check_equality(self, Least, arguments, [0, 0, 0, Empty([2])])
        self.assertIs(bool(Least(0, 0, 0, Empty([]))), True)
        self.assertNotEqual(Least(1, 2, 3, None), First(2, 3, None))

    def test_errors(self):
        fine = Region([(1, 2, 3)])
        large = Region([(1, 2, 3)] * 41)
        for region in (fine, large, Region([(10 ** 40, 0, 0)])):
            for u, v, value in (
                (None, "v", None), (1, "v", "v"), (True, 1, True), (1, False, False),
                (1.5, None, 1.5), (10 ** 40, "v", "v"),
            ):
                with self.assertRaises(BadNumber) as caught:
                    least(region, u, v)
                self.assertIs(caught.exception.value, value)
        most = 10 ** 40
        for rows, u, v, number in (
            ([(1, 2, 3)] * 41, 1, 1, 41), ([(most, 2, 3)] * 41, most, 1, 41),
            ([(1, 2, -most)], 1, 1, 41), ([(1, 2, 3)], most, 1, 41), ([], 0, -most, 41),
            ([(1, 2, 100 * most)], most, 0, 43), ([(1, most, 3)], -1000 * most, 0, 44),
            ([(1, 2, 3)], 0, 10 ** 5000, 5001),
        ):
            with self.assertRaises(TooLarge) as caught:
                least(Region(rows), u, v)
            self.assertEqual(caught.exception.number, number)
        self.check([(1, 2, 3)] * 40, 0, 0)
        self.check([(1 - most, most - 1, most - 1)], most - 1, 1 - most)


class FirstTest(unittest.TestCase):
    def check(self, rows):
        """first(region), held against all that the document says of it."""
        region = Region(rows)
        found = first(region)
        if isinstance(found, First):
            self.assertTrue(found)
            self.assertTrue(region.has(found.x, found.y))
            self.assertTrue(refutes(found.against, list(rows) + [(1, 0, found.x - 1)]))
            self.assertIs(found.shows(region), True)
        elif isinstance(found, Endless):
            self.assertTrue(found.shows(region))
            self.assertLess(found.d, 0)
        else:
            self.assertTrue(refutes(found, rows))
        return found

    def check_point(self, rows, x, y):
        found = self.check(rows)
        self.assertEqual((found.x, found.y), (x, y), rows)

    def test_by_hand(self):
        self.check_point([(7, 12, 5), (-7, -12, -5), (-1, 0, 0)], 11, -6)
        self.assertIsInstance(self.check([(7, 12, 5), (-7, -12, -5)]), Endless)
        self.assertIsInstance(self.check([(2, 4, 1), (-2, -4, -1), (-1, 0, 0)]), Thin)
        self.assertIsInstance(self.check([(0, 0, -1)]), Empty)
        self.assertIsInstance(self.check([]), Endless)
        # Columns: both ends, no least y, no greatest y, neither.
        left = (-2, 0, -5)
        self.check_point([left, (0, 2, 9), (0, -2, 7)], 3, -3)
        self.check_point([left, (0, 2, 9)], 3, 4)
        self.check_point([left, (0, -2, 7)], 3, -3)
        self.check_point([left], 3, 0)
        self.check_point([left, (1, 0, 3)], 3, 0)
        self.check_point([left, (1, 3, 10)], 3, 2)
        self.check_point([left, (1, -3, 10), (1, -1, 0)], 3, 3)
        self.check_point([(-1, 0, 5), (0, 0, 0)], -5, 0)

    def test_against_going_through(self):
        chance = generator(31)
        for _ in range(1000):
            size = chance.randint(1, 8)
            rows = some_rows(chance) + box_rows(size)
            points = points_of(Region(rows), size)
            found = self.check(rows)
            if points:
                self.assertEqual((found.x, found.y), points[0], rows)
            else:
                self.assertIn(type(found), (Thin, Empty))

    def test_without_end(self):
        chance = generator(32)
        kinds = {First: 0, Endless: 0, Thin: 0, Empty: 0}
        for _ in range(1000):
            rows = some_rows(chance)
            found = self.check(rows)
            kinds[type(found)] += 1
            if isinstance(found, First):
                self.check_column(rows, found)
        self.assertGreater(min(kinds.values()), 20)

    def check_column(self, rows, found):
        """The y is the one that the document tells, by whether further ones are in the column."""
        region = Region(rows)
        far = 10 ** 6
        under = region.has(found.x, found.y - far)
        over = region.has(found.x, found.y + far)
        if not under:
            self.assertFalse(region.has(found.x, found.y - 1))
        elif not over:
            self.assertFalse(region.has(found.x, found.y + 1))
        else:
            self.assertEqual(found.y, 0)

    def test_long_numbers(self):
        chance = generator(33)
        most = 10 ** 40 - 1
        for _ in range(40):
            a, b = chance.randint(1, most), chance.randint(1, most)
            c = chance.randint(-most, most)
            found = self.check([(a, b, c), (-a, -b, -c), (-1, 0, 0)])
            if isinstance(found, First) and found.x <= b:
                self.assertEqual((c - a * found.x) % b, 0)
            rows = [tuple(chance.randint(-most, most) for _ in range(3)) for _ in range(40)]
            self.check(rows)

    def test_shows(self):
        region = Region([(-2, 0, -5), (0, 2, 9), (0, -2, 7)])
        against = first(region).against
        self.assertIs(First(3, -3, against).shows(region), True)
        self.assertIs(First(3, -2, against).shows(region), False)
        self.assertIs(First(3, 4, against).shows(region), False)
        self.assertIs(First(3, -4, against).shows(region), False)
        self.assertIs(First(2, -3, against).shows(region), False)
        self.assertIs(First(4, -3, against).shows(region), False)
        self.assertIs(First(4, -3, Thin(1, 0)).shows(region), False)
        self.assertIs(First(3, -3, Thin(0, 1)).shows(region), False)
        self.assertIs(First(3, -3, Point(3, -3)).shows(region), False)
        self.assertIs(First(3, -3, None).shows(region), False)
        under = Region([(-2, 0, -5), (0, 2, 9)])
        self.assertIs(First(3, 4, first(under).against).shows(under), True)
        self.assertIs(First(3, 3, first(under).against).shows(under), False)
        either = Region([(-2, 0, -5)])
        self.assertIs(First(3, 0, first(either).against).shows(either), True)
        self.assertIs(First(3, 1, first(either).against).shows(either), False)

    def test_equality(self):
        check_equality(self, First, [2, 3, Empty([1])], [0, 0, Empty([2])])
        self.assertIs(bool(First(0, 0, None)), True)

    def test_bounds(self):
        most = 10 ** 40
        for rows, number in (
            ([(1, 2, 3)] * 41, 41), ([(most, 2, 3)] * 41, 41), ([(1, -most, 3)], 41),
            ([(1, 2, 3), (0, 0, most * 10)], 42),
        ):
            with self.assertRaises(TooLarge) as caught:
                first(Region(rows))
            self.assertEqual(caught.exception.number, number)
        self.check([(-1, 2, 3)] * 40)
        self.check([(1 - most, most - 1, 1 - most), (0, -1, 0)])


if __name__ == "__main__":
    unittest.main()
