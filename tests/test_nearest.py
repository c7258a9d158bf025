"""The nearest whole point of a region ([37])."""

import unittest

from pointorstrip.errors import BadNumber, TooLarge
from pointorstrip.nearest import Nearest, nearest
from pointorstrip.papers import Empty, Point, Thin
from pointorstrip.regions import Region
from trying import box_rows, check_equality, generator, points_of, refutes, some_rows, some_turn


def apart(x, y, point, norm):
    d, e = abs(point[0] - x), abs(point[1] - y)
    return max(d, e) if norm == "greater" else d + e


def rows_near(x, y, norm, k):
    """The rows of the points that are at most k away, as the document tells them."""
    if norm == "greater":
        return [(1, 0, x + k), (-1, 0, k - x), (0, 1, y + k), (0, -1, k - y)]
    return [(1, 1, x + y + k), (1, -1, x - y + k), (-1, 1, y - x + k), (-1, -1, k - x - y)]


class NearestTest(unittest.TestCase):
    def check(self, rows, x, y, norm):
        """nearest(..), held against what the document says of it; how far, None for no point."""
        region = Region(rows)
        found = nearest(region, x, y, norm)
        if not isinstance(found, Nearest):
            self.assertTrue(refutes(found, rows))
            return None
        self.assertTrue(found)
        self.assertTrue(region.has(found.x, found.y))
        self.assertEqual(found.far, apart(x, y, (found.x, found.y), norm))
        if found.far == 0:
            self.assertIsNone(found.against)
        else:
            self.assertTrue(refutes(found.against, list(rows) + rows_near(x, y, norm, found.far - 1)))
        self.assertIs(found.shows(region, x, y, norm), True)
        return found.far

    def test_against_going_through(self):
        chance = generator(371)
        seen = {}
        for _ in range(500):
            size = chance.randint(1, 7)
            rows = some_rows(chance) + box_rows(size)
            points = points_of(Region(rows), size)
            x, y = chance.randint(-12, 12), chance.randint(-12, 12)
            for norm in ("greater", "sum"):
                far = self.check(rows, x, y, norm)
                if points:
                    self.assertEqual(far, min(apart(x, y, point, norm) for point in points))
                else:
                    self.assertIsNone(far)
                seen[far] = True
        self.assertLessEqual({None, 0, 1, 2, 3, 10}, set(seen))

    def test_regions_without_end(self):
        chance = generator(372)
        for _ in range(200):
            rows = some_rows(chance)
            for norm in ("greater", "sum"):
                far = self.check(rows, chance.randint(-30, 30), chance.randint(-30, 30), norm)
                self.assertTrue(far is None or far < 10 ** 4)

    def test_by_hand(self):
        for norm in ("greater", "sum"):
            self.assertEqual(self.check([], 5, -7, norm), 0)
            self.assertEqual(self.check([(1, 0, 4)], 5, -7, norm), 1)
            self.assertIsNone(self.check([(0, 0, -1)], 0, 0, norm))
            self.assertIsNone(self.check([(2, 4, 1), (-2, -4, -1)], 0, 0, norm))
        corner = [(-1, 0, -3), (0, -1, -4)]
        self.assertEqual(self.check(corner, 0, 0, "greater"), 4)
        self.assertEqual(self.check(corner, 0, 0, "sum"), 7)
        found = nearest(Region(corner), 0, 0, "sum")
        self.assertEqual((found.x, found.y), (3, 4))
        line = [(7, 12, 5), (-7, -12, -5)]
        self.assertEqual(self.check(line, 0, 0, "sum"), 2)
        self.assertEqual(self.check(line, 0, 0, "greater"), 1)
        self.assertEqual(self.check(line, 5, -3, "sum"), 9)
        self.assertEqual(self.check(line, 5, -3, "greater"), 6)

    def test_long_numbers(self):
        most = 10 ** 40 - 1
        far = self.check([(-1, 0, -most), (0, -1, -most)], -most, -most, "sum")
        self.assertEqual(far, 4 * most)
        self.assertEqual(self.check([(-1, 0, -most)], -most, 3, "greater"), 2 * most)
        chance = generator(373)
        for _ in range(30):
            a, b, c = [chance.randint(-most, most) for _ in range(3)]
            self.check([(a, b, c), (-a, -b, 1 - c)], chance.randint(-most, most), 5, "sum")
            rows = [tuple(chance.randint(-most, most) for _ in range(3)) for _ in range(40)]
            self.check(rows, most, -most, "greater")

    def test_turned_about(self):
        chance = generator(374)
        for _ in range(40):
            rows = some_rows(chance) + box_rows(5)
            turn = some_turn(chance, 10 ** 8)
            turned = turn.region(Region(rows)).rows
            points = points_of(Region(rows), 5)
            x, y = turn.point(chance.randint(-9, 9), chance.randint(-9, 9))
            for norm in ("greater", "sum"):
                far = self.check(turned, x, y, norm)
                if points:
                    self.assertEqual(far, min(apart(x, y, turn.point(*p), norm) for p in points))

    def test_shows(self):
        region = Region([(-1, 0, -3), (0, -1, -4)])
        for norm, far in (("greater", 4), ("sum", 7)):
            found = nearest(region, 0, 0, norm)
            x, y, against = found.x, found.y, found.against
            self.assertIs(Nearest(far, x, y, against).shows(region, 0, 0, norm), True)
            for other in (far - 1, far + 1, 0, -far, None):
                self.assertIs(Nearest(other, x, y, against).shows(region, 0, 0, norm), False)
            for point in ((2, 4), (3, 3), (3, 5), (-3, -4), (-4, 0), (0, 4), (8, 4)):
                self.assertIs(Nearest(far, *point, against).shows(region, 0, 0, norm), False)
            for paper in (None, Point(3, 4), Thin(2, 0), Thin(0, 0), Empty([0] * 6), Empty([1] * 6)):
                self.assertIs(Nearest(far, x, y, paper).shows(region, 0, 0, norm), False)
            for place in ((0, 1), (-1, -1), (3, 4), (0, -5)):
                self.assertIs(Nearest(far, x, y, against).shows(region, *place, norm), False)
            # A point further off is not the nearest one, whatever is against it.
            for paper in (against, Thin(1, 0), Thin(0, 1)):
                self.assertIs(Nearest(9, 9, 9, paper).shows(region, 0, 0, norm), False)
                self.assertIs(Nearest(18, 9, 9, paper).shows(region, 0, 0, norm), False)
        found = nearest(region, 0, 0, "greater")
        self.assertIs(found.shows(region, 0, 0, "sum"), False)
        self.assertIs(found.shows(Region([(-1, 0, -3)]), 0, 0, "greater"), False)
        # At the place itself nothing is against it.
        self.assertIs(Nearest(0, 5, 5, None).shows(region, 5, 5, "sum"), True)
        self.assertIs(Nearest(0, 5, 5, Empty([1])).shows(region, 5, 5, "sum"), False)
        self.assertIs(Nearest(0, 5, 6, None).shows(region, 5, 5, "sum"), False)
        self.assertIs(Nearest(1, 5, 6, None).shows(region, 5, 5, "sum"), False)
        self.assertIs(Nearest(0, 2, 2, None).shows(region, 2, 2, "sum"), False)

    def test_shows_for_long_numbers(self):
        long = 10 ** 400
        region = Region([(0, 0, 1)] * 90 + [(-1, 0, -long)])
        told = Nearest(long, long, 0, Empty([0] * 90 + [1, 1, 0, 0, 0]))
        self.assertIs(told.shows(region, 0, 0, "greater"), True)
        self.assertIs(told.shows(region, 0, 0, "sum"), False)

    def test_equality(self):
        check_equality(self, Nearest, [1, 2, 3, Thin(1, 0)], [2, 3, 4, None])

    def test_errors(self):
        fine = Region([(1, 2, 3)])
        most = 10 ** 40
        for region in (fine, Region([(1, 2, 3)] * 41), Region([(most, 0, 0)])):
            for x, y, norm, value in (
                (None, "y", "sum", None), (1, "y", None, "y"), (True, 1, "sum", True),
                (1, False, "sum", False), (1.0, 2, "none", 1.0), (most, None, "sum", None),
                (1, 2, "Sum", "Sum"), (1, 2, None, None), (most, 2, "", ""), (1, 2, 0, 0),
                (1, 2, True, True), (1, 2, "max", "max"),
            ):
                with self.assertRaises(BadNumber) as caught:
                    nearest(region, x, y, norm)
                self.assertIs(caught.exception.value, value)
        for rows, x, y, number in (
            ([(1, 2, 3)] * 41, 1, 1, 41), ([(most, 2, 3)] * 41, most, 1, 41), ([(1, 2, -most)], 1, 1, 41),
            ([(1, 2, 3)], most, 1, 41), ([], 0, -most, 41), ([(1, 2, 100 * most)], most, 0, 43),
            ([(1, most, 3)], 0, 1000 * most, 44),
        ):
            for norm in ("greater", "sum"):
                with self.assertRaises(TooLarge) as caught:
                    nearest(Region(rows), x, y, norm)
                self.assertEqual(caught.exception.number, number)
        self.check([(1, 2, 3)] * 40, 0, 0, "sum")
        self.check([(1 - most, most - 1, 1 - most)], most - 1, 1 - most, "greater")


if __name__ == "__main__":
    unittest.main()
