"""Hulls cut into the smallest triangles, and points as sums ([50], [51])."""

import unittest

from pointorstrip.corners import are_corners
from pointorstrip.errors import BadNumber, TooLarge
from pointorstrip.hulls import sides
from pointorstrip.regions import Region
from pointorstrip.triangles import Cut, as_sum, cut
from trying import check_equality, generator, hull_of_points, some_turn

TRIANGLE = ((0, 0), (1, 0), (0, 1))
SQUARE = ((0, 0), (2, 0), (2, 2), (0, 2))

# What are no corners.
NONE = (
    None, 5, "abc", (), ((0, 0),), ((0, 0), (1, 0)), [(0, 0), (1, 0), (0, 1)], ((0, 0), (1, 0), [0, 1]),
    ((0, 0), (1, 0), None), ((0, 0), (1, 0), (0, 1, 2)), ((0, 0), (1, 0), (0,)), ((0, 0), (1, 0), (0, True)),
    ((0, 0), (1, 0), (0, 1.0)), ((0, 0), (0, 1), (1, 0)), ((0, 0), (1, 1), (2, 2)), ((0, 0), (1, 0), (0, 0)),
    ((0, 0), (1, 0), (2, 0), (0, 1)), ((0, 0), (1, 0), (0, 1), (0, 1)), ((0, 0), (4, 0), (1, 1), (0, 4)),
    ((0, 0), (2, 2), (2, 0), (0, 2)), ((0, 0), (2, 0), (2, 2), (0, 2), (0, 1)),
    ((0, 0), (2, 0), (2, 2), (0, 2)) * 2, ((0, 0), (2, 2), (0, 2), (2, 0)),
)


def area(corners):
    """Twice the area of a polygon."""
    ring = zip(corners, corners[1:] + corners[:1])
    return sum(p * s - q * r for (p, q), (r, s) in ring)


def points_in(corners):
    """The whole points of a hull, by going through its box."""
    rows = sides(corners)
    xs, ys = [x for x, _ in corners], [y for _, y in corners]
    return [(x, y) for x in range(min(xs), max(xs) + 1) for y in range(min(ys), max(ys) + 1)
            if all(a * x + b * y <= c for a, b, c in rows)]


def on_border(corners, point):
    return any(a * point[0] + b * point[1] == c for a, b, c in sides(corners))


def some_corners(chance, size):
    """The corners of a hull, beginning with any of them."""
    while True:
        points = [(chance.randint(-size, size), chance.randint(-size, size))
                  for _ in range(chance.randint(3, 8))]
        corners = hull_of_points(points)
        if len(corners) > 2:
            at = chance.randrange(len(corners))
            return corners[at:] + corners[:at]


class CornersTest(unittest.TestCase):
    def test_are_corners(self):
        chance = generator(500)
        for _ in range(200):
            corners = some_corners(chance, chance.choice([2, 5, 10 ** 30]))
            self.assertTrue(are_corners(corners))
            self.assertFalse(are_corners(corners[::-1]))
            self.assertFalse(are_corners(list(corners)))
            self.assertFalse(are_corners(corners + corners[:1]))
        for value in NONE:
            self.assertFalse(are_corners(value))


class CutTest(unittest.TestCase):
    def check(self, corners):
        """cut(corners), held against what the document says of it."""
        found = cut(corners)
        self.assertIsInstance(found, Cut)
        self.assertTrue(found)
        self.assertIs(found.shows(corners), True)
        triangles = found.triangles
        self.assertIs(type(triangles), tuple)
        self.assertEqual(len(triangles), area(corners))
        points = points_in(corners)
        ways = []
        for triangle in triangles:
            self.assertEqual(len(triangle), 3)
            self.assertEqual(area(triangle), 1)
            for at in range(3):
                self.assertIn(triangle[at], points)
                ways.append((triangle[at - 1], triangle[at]))
        self.assertEqual(len(ways), len(set(ways)))
        border = [point for point in points if on_border(corners, point)]
        alone = [(start, end) for start, end in ways if (end, start) not in ways]
        self.assertEqual(len(alone), len(border))
        self.assertEqual(sorted(start for start, _ in alone), border)
        self.assertEqual(sorted({point for triangle in triangles for point in triangle}), points)
        return len(triangles)

    def test_by_hand(self):
        self.assertEqual(self.check(TRIANGLE), 1)
        self.assertEqual(sorted(cut(TRIANGLE).triangles[0]), sorted(TRIANGLE))
        self.assertEqual(self.check(SQUARE), 8)
        self.assertEqual(self.check(SQUARE[2:] + SQUARE[:2]), 8)
        self.assertEqual(self.check(((0, 0), (2, 1), (1, 2))), 3)
        self.assertEqual(self.check(((0, 0), (1, 0), (1, 1), (0, 1))), 2)
        self.assertEqual(self.check(((0, 0), (148, 0), (0, 1))), 148)
        self.assertEqual(self.check(((0, 0), (2000, 1), (1999, 1))), 1)
        self.assertEqual(self.check(((0, 0), (2000, 1), (1900, 1))), 100)
        self.assertEqual(self.check(((5, 5), (16, 5), (16, 16), (5, 16))), 242)

    def test_some_hulls(self):
        chance = generator(501)
        many = 0
        while many < 150:
            corners = some_corners(chance, chance.choice([1, 2, 4, 6]))
            if len(points_in(corners)) <= 150:
                many = many + 1
                self.check(corners)

    def test_hulls_far_off(self):
        chance = generator(502)
        for _ in range(30):
            corners = some_corners(chance, 3)
            far = 10 ** 40
            self.check(tuple((x + far, y - 7 * far) for x, y in corners))
            steep = tuple((x, y + far * x) for x, y in corners)
            self.assertEqual(len(cut(steep).triangles), area(corners))
            self.assertIs(cut(steep).shows(steep), True)

    def test_shows(self):
        for corners in (TRIANGLE, SQUARE, ((0, 0), (2, 1), (1, 2)), ((0, 0), (5, 1), (4, 4), (1, 3))):
            triangles = cut(corners).triangles
            self.assertIs(Cut(list(triangles)).shows(corners), True)
            self.assertIs(Cut(triangles[::-1]).shows(corners), True)
            self.assertIs(Cut(tuple(t[1:] + t[:1] for t in triangles)).shows(corners), True)
            self.assertIs(Cut(triangles).shows(corners[1:] + corners[:1]), True)
            for at, triangle in enumerate(triangles):
                rest = triangles[:at] + triangles[at + 1:]
                start, one, other = triangle
                self.assertIs(Cut(rest).shows(corners), False)
                self.assertIs(Cut(triangles + (triangle,)).shows(corners), False)
                self.assertIs(Cut(rest + rest[:1]).shows(corners), False)
                beside = tuple((x + 1, y) for x, y in triangle)
                for bent in ((start, other, one), beside, (start, one, one), (start, one), (),
                             (start, one, (2 * other[0] - start[0], 2 * other[1] - start[1])),
                             (start, one, (other[0] + one[0] - start[0], other[1] + one[1] - start[1])),
                             (start, one, other, start)):
                    self.assertIs(Cut(rest + (bent,)).shows(corners), False)
        self.assertIs(Cut(()).shows(TRIANGLE), False)
        self.assertIs(cut(SQUARE).shows(TRIANGLE), False)
        self.assertIs(cut(SQUARE).shows(((0, 0), (2, 0), (2, 2), (0, 3))), False)
        self.assertIs(cut(TRIANGLE).shows(((0, 0), (0, 1), (1, 0))), False)
        self.assertIs(cut(TRIANGLE).shows(((0, 0), (10 ** 60, 0), (0, 10 ** 60))), False)

    def test_shows_of_a_double_cover(self):
        # Each way has a way back or is a step of the border, and still the half is covered twice.
        one = (((0, 0), (1, 0), (1, 1)), ((0, 0), (1, 1), (0, 1)))
        square = ((0, 0), (1, 0), (1, 1), (0, 1))
        wide = ((0, 0), (2, 0), (2, 1), (0, 1))
        self.assertIs(Cut(one).shows(square), True)
        self.assertIs(Cut(one + one).shows(wide), False)
        other = (((0, 0), (1, 0), (0, 1)), ((1, 0), (1, 1), (0, 1)))
        self.assertIs(Cut(other).shows(square), True)
        self.assertIs(Cut(one + other).shows(wide), False)
        self.assertIs(Cut(one[:1] + other[:1]).shows(square), False)

    def test_shows_of_what_lies_outside(self):
        # Two triangles beside the hull, all between lines of its sides, with its area in all.
        corners = ((-1, 0), (0, -2), (1, -3), (0, 0))
        beside = (((0, -2), (-1, 0), (-2, 0)), ((1, -3), (0, -2), (2, -6)))
        triangles = [triangle for tip in beside for triangle in cut(tip).triangles]
        self.assertEqual(len(triangles), area(corners))
        self.assertIs(Cut(triangles).shows(corners), False)
        self.assertIs(cut(corners).shows(corners), True)

    def test_shows_of_no_corners(self):
        triangles = cut(((0, 0), (2, 0), (0, 1))).triangles
        self.assertIs(Cut(triangles).shows(((0, 0), (2, 0), (0, 1))), True)
        self.assertIs(Cut(triangles).shows(((0, 0), (1, 0), (2, 0), (0, 1))), False)
        self.assertIs(Cut(triangles).shows(((0, 1), (2, 0), (0, 0))), False)

    def check_errors(self, function, *more):
        for corners in NONE:
            with self.assertRaises(BadNumber) as caught:
                function(corners, *more)
            self.assertIs(caught.exception.value, corners)
        for corners, number in (
            (((0, 0), (149, 0), (0, 1)), 151), (((0, 0), (10 ** 30, 0), (0, 1)), 10 ** 30 + 2),
            (((0, 0), (2001, 0), (0, 1)), 2003), (((0, 0), (12, 0), (12, 12), (0, 12)), 169),
            (((0, 0), (2001, 1), (2000, 1)), 2001), (((-5, 0), (10 ** 20, 1), (10 ** 20 - 1, 1)), 10 ** 20 + 5),
        ):
            with self.assertRaises(TooLarge) as caught:
                function(corners, *more)
            self.assertEqual(caught.exception.number, number)
        function(((0, 0), (148, 0), (0, 1)), *more)
        function(((-1000, 0), (1000, 1), (999, 1)), *more)

    def test_errors(self):
        self.check_errors(cut)
        self.check_errors(as_sum, 1, (0, 0))
        for corners in NONE[:3]:
            for times, point in ((0, None), (1, None), (1001, (0, 0))):
                with self.assertRaises(BadNumber) as caught:
                    as_sum(corners, times, point)
                self.assertIs(caught.exception.value, corners)
        with self.assertRaises(TooLarge):
            as_sum(((0, 0), (149, 0), (0, 1)), 0, None)
        for times in (0, -1, 1001, None, True, 2.0, "2"):
            for point in ((0, 0), None):
                with self.assertRaises(BadNumber) as caught:
                    as_sum(TRIANGLE, times, point)
                self.assertIs(caught.exception.value, times)
        for point in (None, 5, [0, 0], (0,), (0, 0, 0), (0, None), (True, 0), (0.0, 0), "00"):
            with self.assertRaises(BadNumber) as caught:
                as_sum(TRIANGLE, 1, point)
            self.assertIs(caught.exception.value, point)

    def test_equality(self):
        check_equality(self, Cut, [(TRIANGLE,)], [()])
        self.assertEqual(Cut([TRIANGLE]), Cut((TRIANGLE,)))


class SumTest(unittest.TestCase):
    def check(self, corners, times, point):
        """as_sum(..), held against what the document says of it; whether there is a sum."""
        found = as_sum(corners, times, point)
        rows = [(a, b, c * times) for a, b, c in sides(corners)]
        self.assertEqual(found is not None, Region(rows).has(*point))
        if found is None:
            return False
        self.assertIs(type(found), tuple)
        self.assertEqual(len(found), times)
        self.assertEqual(list(found), sorted(found))
        for x, y in found:
            self.assertTrue(Region(sides(corners)).has(x, y))
        self.assertEqual((sum(x for x, _ in found), sum(y for _, y in found)), point)
        return True

    def test_all_points(self):
        chance = generator(511)
        for _ in range(30):
            corners = some_corners(chance, 3)
            times = chance.choice([1, 2, 3, 5])
            for x in range(-3 * times - 1, 3 * times + 2):
                for y in range(-3 * times - 1, 3 * times + 2, 2):
                    self.check(corners, times, (x, y))

    def test_by_hand(self):
        self.assertEqual(as_sum(TRIANGLE, 1, (0, 1)), ((0, 1),))
        self.assertEqual(as_sum(TRIANGLE, 3, (1, 1)), ((0, 0), (0, 1), (1, 0)))
        self.assertEqual(as_sum(TRIANGLE, 1000, (0, 0)), ((0, 0),) * 1000)
        self.assertEqual(as_sum(TRIANGLE, 1000, (400, 600)), ((0, 1),) * 600 + ((1, 0),) * 400)
        self.assertIsNone(as_sum(TRIANGLE, 1000, (401, 600)))
        self.assertIsNone(as_sum(TRIANGLE, 1000, (-1, 5)))
        self.assertIsNone(as_sum(TRIANGLE, 1, (10 ** 50, -10 ** 50)))

    def test_great_ones(self):
        chance = generator(512)
        for _ in range(10):
            turn = some_turn(chance, 7)
            corners = tuple(turn.point(x, y) for x, y in ((0, 0), (3, 1), (2, 4), (-1, 3)))
            wide = max(corners)[0] - min(corners)[0]
            if wide <= 2000:
                for times in (1, 2, 999, 1000):
                    for x, y in ((times, times), (3 * times, times), (times - 1, 2 * times), (0, 4 * times)):
                        point = (turn.a * x + turn.b * y + times * turn.e,
                                 turn.c * x + turn.d * y + times * turn.f)
                        self.check(corners, times, point)
        far = 10 ** 40
        corners = tuple((x + far, y - far) for x, y in SQUARE)
        self.assertTrue(self.check(corners, 7, (7 * far + 3, 13 - 7 * far)))
        self.assertFalse(self.check(corners, 7, (7 * far + 3, 15 - 7 * far)))


if __name__ == "__main__":
    unittest.main()
