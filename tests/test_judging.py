"""The decision ([1], [5])."""

import unittest

from pointorstrip.errors import TooLarge
from pointorstrip.judging import judge
from pointorstrip.papers import Empty, Point, Thin
from pointorstrip.regions import Region
from trying import box_rows, generator, points_of, some_rows, some_turn


class JudgeTest(unittest.TestCase):
    def check(self, rows, kind=None):
        region = Region(rows)
        found = judge(region)
        self.assertIn(type(found), (Point, Thin, Empty))
        self.assertIs(found.shows(region), True, rows)
        self.assertIs(bool(found), isinstance(found, Point))
        self.assertEqual(region, Region(rows))
        if kind is not None:
            self.assertIsInstance(found, kind, rows)
        return found

    def test_by_hand(self):
        self.check([], Point)
        self.check([(0, 0, 0)], Point)
        self.check([(0, 0, -1)], Empty)
        self.check([(1, 0, 3), (0, 0, -1)], Empty)
        self.check([(3, 5, -7)], Point)
        # Lines and strips.
        self.check([(2, 4, 1), (-2, -4, -1)], Thin)
        self.check([(7, 12, 5), (-7, -12, -5)], Point)
        self.check([(3, 6, 5), (-3, -6, -4)], Thin)
        self.check([(3, 6, 6), (-3, -6, -4)], Point)
        self.check([(3, 6, 4), (-3, -6, -5)], Empty)
        self.check([(3, 0, 2), (-3, 0, -1), (0, 1, 5)], Thin)
        self.check([(3, 0, 3), (-3, 0, -1), (0, 1, 5)], Point)
        # Going on in one direction alone, and in two.
        self.check([(6, -9, 2), (-6, 9, -1), (-1, 0, 0)], Thin)
        self.check([(2, -3, 3), (-2, 3, -2), (-1, 0, -50)], Point)
        self.check([(1000, -1001, 0), (-1001, 1002, -5)], Point)
        self.check([(1, 1, 0), (-1, -1, -5), (1, -1, 0)], Empty)
        # One point, a whole one and one of fractions.
        self.check([(1, 0, 3), (-1, 0, -3), (0, 1, 4), (0, -1, -4)], Point)
        self.check([(2, 0, 3), (-2, 0, -3), (0, 1, 4), (0, -1, -4)], Thin)
        self.check([(3, 5, 0), (-2, -3, 0), (-1, -2, 0)], Point)
        self.check([(3, 5, 1), (-2, -3, -1), (-1, -2, -1)], Empty)
        self.check([(2, 2, 1), (-2, 0, 0), (0, -2, 0)], Point)
        self.check([(3, 3, 5), (-3, 0, -1), (0, -3, -1)], Thin)
        # Four rows, each of which keeps out one of the whole points around (1 / 2, 1 / 2).
        self.check([(4, 4, 7), (-4, -4, -1), (4, -4, 3), (-4, 4, 3)], Thin)
        self.check([(1, 1, 2), (-1, -1, -1), (1, -1, 0), (-1, 1, 0)], Point)

    def test_against_going_through(self):
        chance = generator(1)
        kinds = {Point: 0, Thin: 0, Empty: 0}
        for _ in range(1500):
            size = chance.randint(1, 8)
            rows = some_rows(chance) + box_rows(size)
            chance.shuffle(rows)
            found = self.check(rows)
            self.assertEqual(bool(found), bool(points_of(Region(rows), size)), rows)
            kinds[type(found)] += 1
        self.assertGreater(min(kinds.values()), 40)

    def test_unbounded(self):
        chance = generator(2)
        for _ in range(1500):
            rows = some_rows(chance)
            found = self.check(rows)
            if not found:
                self.assertEqual(points_of(Region(rows), 6), [], rows)

    def test_turned_about(self):
        chance = generator(3)
        for _ in range(150):
            size = chance.randint(1, 8)
            rows = some_rows(chance) + box_rows(size)[:chance.randint(0, 4)]
            plain = self.check(rows)
            for long in (30, 10 ** 10, 10 ** 140):
                region = some_turn(chance, long).region(Region(rows))
                self.assertEqual(type(self.check(region.rows)), type(plain), rows)

    def test_long_numbers(self):
        chance = generator(5)
        most = 10 ** 300 - 1
        for _ in range(60):
            rows = []
            for _ in range(chance.choice([3, 5, 60])):
                end = chance.choice([10 ** 100, most])
                a, b = chance.randint(-most, most), chance.randint(-most, most)
                rows.append((a, b, chance.randint(-end, end)))
            self.check(rows)
            a, b, c = [chance.randint(1, most) for _ in range(3)]
            # A strip without end, then cut off to be very long.
            wide = chance.choice([0, 1, 10 ** 150, most // 2])
            strip = [(a, b, c), (-a, -b, max(-most, wide - c))]
            self.check(strip)
            self.check(strip + [(1, 0, chance.randint(0, most)), (-1, 0, chance.randint(0, most))])

    def test_widths_about_four(self):
        # A region that is as wide in all directions as it can be without a whole point.
        chance = generator(6)
        for turned in range(40):
            scale = chance.randint(3, 10 ** 6)
            x, y = chance.randint(0, scale), chance.randint(0, scale)
            rows = []
            for a, b in ((1, 0), (-1, 0), (0, 1), (0, -1), (1, 1), (-1, -1), (2, -1), (-2, 1)):
                far = chance.randint(0, 3 * scale)
                rows.append((a * scale, b * scale, a * x + b * y + far))
            self.check(rows)
            self.check(some_turn(chance, 10 ** 20).region(Region(rows)).rows)

    def test_many_rows(self):
        chance = generator(7)
        for far in (1, 5, 10 ** 3, 10 ** 9):
            rows = []
            for _ in range(60):
                a, b = chance.randint(-10 ** 9, 10 ** 9), chance.randint(-10 ** 9, 10 ** 9)
                rows.append((a, b, a // 2 + b // 3 + far * (abs(a) + abs(b)) // 10 ** 3))
            self.check(rows)

    def check_large(self, number, rows):
        with self.assertRaises(TooLarge) as caught:
            judge(Region(rows))
        self.assertEqual(caught.exception.number, number)

    def test_bounds(self):
        row = (1, 2, 3)
        self.check([row] * 60, Point)
        self.check_large(61, [row] * 61)
        self.check_large(100, [row] * 100)
        most = 10 ** 300
        for at in range(3):
            for long in (most - 1, 1 - most):
                rows = [list(row), list(row)]
                rows[1][at] = long
                self.check([tuple(told) for told in rows])
                rows[1][at] = most if long > 0 else -most
                self.check_large(301, [tuple(told) for told in rows])
        self.check_large(301, [(10 ** 299, 1, 1), (most, 1, 1), (most * 10 - 1, 1, 1)])
        self.check_large(6001, [(0, 0, 10 ** 6000), (most, 1, 1)])
        self.check_large(6000, [(0, 0, 1 - 10 ** 6000)])
        # Both at once: the rows come first.
        self.check_large(61, [(most, 1, 1)] * 61)


if __name__ == "__main__":
    unittest.main()
