"""All corners of the hull of a region's whole points ([11], [12])."""

import unittest

from pointorstrip.errors import TooLarge
from pointorstrip.hulls import Hull, hull, sides
from pointorstrip.papers import Empty, Endless, Point, Thin
from pointorstrip.regions import Region
from trying import (
    box_rows, check_equality, generator, hull_of_points, points_of, refutes, some_rows,
)


class SidesTest(unittest.TestCase):
    def test_by_hand(self):
        self.assertEqual(
            sides(((4, -2),)), [(1, 0, 4), (-1, 0, -4), (0, 1, -2), (0, -1, 2)]
        )
        # From (1, 2) to (5, 8) it is twice (2, 3).
        self.assertEqual(
            sides(((1, 2), (5, 8))), [(3, -2, -1), (-3, 2, 1), (2, 3, 34), (-2, -3, -8)]
        )
        self.assertEqual(
            sides(((0, 0), (6, 0), (6, 3))), [(0, -1, 0), (1, 0, 6), (-1, 2, 0)]
        )
        self.assertEqual(
            sides(((0, 0), (2, -2), (5, 1), (3, 3))),
            [(-1, -1, 0), (1, -1, 4), (1, 1, 6), (-1, 1, 0)],
        )

    def test_they_hold_exactly_in_the_hull(self):
        chance = generator(41)
        for _ in range(300):
            many = chance.choice([1, 2, 3, 5, 9])
            points = [(chance.randint(-5, 5), chance.randint(-5, 5)) for _ in range(many)]
            corners = hull_of_points(points)
            rows = sides(corners)
            self.assertIs(type(rows), list)
            self.assertIsNot(rows, sides(corners))
            self.assertEqual(len(rows), max(len(corners), 4) if len(corners) < 3 else len(corners))
            within = points_of(Region(rows), 7)
            self.assertEqual(hull_of_points(within), corners)
            for point in points:
                self.assertIn(point, within)


class HullTest(unittest.TestCase):
    def check(self, rows):
        """hull(region), held against what the document says of it, but for the points."""
        region = Region(rows)
        found = hull(region)
        if isinstance(found, Hull):
            self.assertTrue(found)
            self.assertIs(type(found.corners), tuple)
            self.assertIs(type(found.papers), tuple)
            told = sides(found.corners)
            self.assertEqual(len(found.papers), len(told))
            for (a, b, c), paper in zip(told, found.papers):
                self.assertTrue(refutes(paper, list(rows) + [(-a, -b, -c - 1)]))
            self.assertIs(found.shows(region), True)
        else:
            self.assertIn(type(found), (Endless, Thin, Empty))
            self.assertTrue(found.shows(region))
        return found

    def test_by_hand(self):
        self.assertEqual(self.check([(1, 0, 3), (-1, 0, -3), (0, 1, 4), (0, -1, -4)]).corners,
                         ((3, 4),))
        self.assertEqual(self.check([(1, 0, 3), (-1, 0, -3), (0, 3, 14), (0, -1, 4)]).corners,
                         ((3, -4), (3, 4)))
        self.assertEqual(self.check([(2, 3, 1), (-2, -3, -1), (1, 0, 6), (-1, 0, 6)]).corners,
                         ((-4, 3), (5, -3)))
        self.assertEqual(self.check([(-1, 0, 0), (0, -1, 0), (1, 1, 3)]).corners,
                         ((0, 0), (3, 0), (0, 3)))
        self.assertEqual(self.check([(-2, 0, 1), (0, -2, 1), (3, 5, 15)]).corners,
                         ((0, 0), (5, 0), (0, 3)))
        self.assertEqual(self.check([(-1, 0, 0), (0, -1, 0), (5, 7, 34)]).corners,
                         ((0, 0), (6, 0), (4, 2), (1, 4), (0, 4)))
        self.assertIsInstance(self.check([(-1, 0, 0), (0, -1, 0)]), Endless)
        self.assertIsInstance(self.check([]), Endless)
        self.assertIsInstance(self.check([(1, 0, 0), (-1, 0, 0)]), Endless)
        self.assertIsInstance(self.check([(2, 4, 1), (-2, -4, -1)]), Thin)
        self.assertIsInstance(self.check([(3, 3, 5), (-3, 0, -1), (0, -3, -1)]), Thin)
        self.assertIsInstance(self.check([(1, 0, 0), (-1, 0, -1)]), Empty)

    def test_against_going_through(self):
        chance = generator(42)
        sizes = {}
        for _ in range(900):
            size = chance.randint(1, 9)
            rows = some_rows(chance) + box_rows(size)
            chance.shuffle(rows)
            points = points_of(Region(rows), size)
            found = self.check(rows)
            if points:
                self.assertEqual(found.corners, hull_of_points(points), rows)
                sizes[len(found.corners)] = sizes.get(len(found.corners), 0) + 1
            else:
                self.assertIn(type(found), (Thin, Empty))
        for many in range(1, 7):
            self.assertGreater(sizes[many], 10)

    def test_without_end(self):
        chance = generator(43)
        kinds = {}
        for _ in range(500):
            rows = some_rows(chance)
            found = self.check(rows)
            kinds[type(found)] = kinds.get(type(found), 0) + 1
        self.assertEqual(len(kinds), 4)

    def test_long_numbers(self):
        chance = generator(44)
        for many in (3, 4, 20):
            for _ in range(5):
                rows = []
                for way in range(many):
                    a, b = chance.randint(1, 10 ** 9), chance.randint(1, 10 ** 9)
                    a, b = [(a, b), (-b, a), (-a, -b), (b, -a)][way % 4]
                    rows.append((a, b, chance.randint(10 ** 9, 10 ** 12 - 1)))
                self.check(rows)

    def test_shows(self):
        rows = [(-1, 0, 0), (0, -1, 0), (5, 7, 34)]
        region = Region(rows)
        found = hull(region)
        corners, papers = found.corners, found.papers
        self.assertEqual(len(corners), 5)
        self.assertIs(Hull(corners, papers).shows(region), True)
        # Corners exchanged, begun with another one, round to the right.
        for order in ([0, 2, 1, 3, 4], [1, 2, 3, 4, 0], [0, 4, 3, 2, 1], [1, 0, 2, 3, 4]):
            self.assertIs(Hull([corners[at] for at in order], papers).shows(region), False)
            told = [papers[at] for at in order]
            self.assertIs(Hull([corners[at] for at in order], told).shows(region), False)
        # Left out, one too many: on the line between two, within, twice, outside.
        for at in range(5):
            less = corners[:at] + corners[at + 1:]
            self.assertIs(Hull(less, papers).shows(region), False)
            self.assertIs(Hull(less, papers[:at] + papers[at + 1:]).shows(region), False)
        more = [(corners[:1] + ((3, 0),) + corners[1:], papers[:1] + papers),
                (corners[:2] + ((1, 1),) + corners[2:], papers[:1] + papers),
                (corners[:1] + corners, papers[:1] + papers),
                (corners[:3] + ((3, 3),) + corners[3:], papers[:3] + papers[2:])]
        for points, told in more:
            self.assertIs(Hull(points, told).shows(region), False)
            self.assertIs(Hull(points, papers).shows(region), False)
        self.assertIs(Hull(corners[:4] + ((0, 5),), papers).shows(region), False)
        self.assertIs(Hull((), ()).shows(region), False)
        # Papers exchanged, left out, one too many, something else.
        self.assertNotEqual(papers[0], papers[4])
        self.assertIs(Hull(corners, papers[::-1]).shows(region), False)
        self.assertIs(Hull(corners, papers[4:] + papers[:4]).shows(region), False)
        for at in range(5):
            for other in (Thin(2, 2), Empty([1, 1, 1]), Point(0, 0), None):
                bent = list(papers)
                bent[at] = other
                self.assertIs(Hull(corners, bent).shows(region), False)
            self.assertIs(Hull(corners, papers[:at] + papers[at + 1:]).shows(region), False)
        self.assertIs(Hull(corners, papers + papers[:1]).shows(region), False)
        # Of another region it is not the hull.
        self.assertIs(found.shows(Region([(-1, 0, 1), (0, -1, 0), (5, 7, 34)])), False)
        self.assertIs(found.shows(Region([(-1, 0, 0), (0, -1, 0), (5, 7, 33)])), False)

    def test_shows_for_one_and_two_corners(self):
        region = Region([(2, 3, 1), (-2, -3, -1), (1, 0, 6), (-1, 0, 6)])
        found = hull(region)
        self.assertEqual(len(found.papers), 4)
        self.assertIs(Hull(found.corners[::-1], found.papers).shows(region), False)
        for at in range(4):
            bent = list(found.papers)
            bent[at] = Thin(3, 3)
            self.assertIs(Hull(found.corners, bent).shows(region), False)
        self.assertIs(Hull(found.corners[:1], found.papers).shows(region), False)
        self.assertIs(Hull(found.corners, found.papers[:2]).shows(region), False)
        one = Region([(1, 0, 3), (-1, 0, -3), (0, 1, 4), (0, -1, -4)])
        found = hull(one)
        self.assertIs(Hull(((3, 5),), found.papers).shows(one), False)
        self.assertIs(Hull(found.corners, found.papers[:3]).shows(one), False)
        self.assertIs(Hull(found.corners * 2, found.papers).shows(one), False)

    def test_shows_for_large_regions(self):
        long = 10 ** 400
        region = Region([(0, 0, 1)] * 80 + [(long, 0, 3 * long), (-1, 0, -3), (0, 1, 4), (0, -1, -4)])
        told = Hull(((3, 4),), [Empty([0] * 80 + weights) for weights in (
            [1, 0, 0, 0, long], [0, 1, 0, 0, 1], [0, 0, 1, 0, 1], [0, 0, 0, 1, 1],
        )])
        self.assertIs(told.shows(region), True)
        self.assertIs(told.shows(region.with_rows([(1, 0, 2)])), False)

    def test_equality(self):
        check_equality(self, Hull, [((0, 0),), (Empty([1]),)], [((0, 1),), (Empty([2]),)])
        self.assertIs(type(Hull([(0, 0)], []).corners), tuple)

    def test_bounds(self):
        most = 10 ** 12
        for rows, number in (
            ([(1, 2, 3)] * 21, 21), ([(1, 2, most)], 13), ([(-most, 2, 1)], 13),
            ([(0, most * 10, 2)], 14), ([(1, 2, most)] * 21, 21),
        ):
            with self.assertRaises(TooLarge) as caught:
                hull(Region(rows))
            self.assertEqual(caught.exception.number, number)
        self.check([(1, 2, 3)] * 20)
        self.check([(1 - most, most - 1, 1 - most)])


if __name__ == "__main__":
    unittest.main()
