"""The whole points of a region, by x, then y ([45])."""

import unittest

from pointorstrip.counting import count
from pointorstrip.errors import BadNumber, TooLarge
from pointorstrip.ranks import columns_with, fair_parts, next_point, point_at, rank
from pointorstrip.regions import Region
from trying import box_rows, generator, points_of, some_rows, some_turn

MOST = 10 ** 40 - 1


def some_small_region(chance):
    """A region within a box, or one of a few points, and its points, ascending."""
    size = chance.randint(0, 5)
    region = Region(some_rows(chance) + box_rows(size))
    points = points_of(region, size)
    if chance.random() < 0.5:
        return region, points
    turn = some_turn(chance, chance.choice([3, 30, 10 ** 12]))
    return turn.region(region), sorted(turn.point(x, y) for x, y in points)


def great_regions():
    """Regions of very many points: wide, narrow, long, and askew."""
    chance = generator(450)
    yield Region([(1, 0, MOST), (-1, 0, MOST), (0, 1, MOST), (0, -1, MOST)])
    yield Region([(1, 1, MOST), (-1, 0, 0), (0, -1, 0)])
    yield Region([(1, 0, MOST), (-1, 0, MOST), (1, -10 ** 20, 0), (-1, 10 ** 20, 3)])
    yield Region([(0, 1, 5), (0, -1, -5), (1, 0, MOST), (-1, 0, -7)])
    for _ in range(4):
        a, b = chance.randint(MOST // 2, MOST), chance.randint(1, MOST)
        yield Region([(a, b, MOST), (3 - a, 2 - b, MOST // 3), (-1, 0, MOST), (1, 0, MOST)])
        yield Region(some_turn(chance, 10 ** 10).region(Region(box_rows(10 ** 12))).rows)


class SmallRegionsTest(unittest.TestCase):
    def test_rank_and_point_at(self):
        chance = generator(451)
        seen = {}
        for _ in range(300):
            region, points = some_small_region(chance)
            seen[min(len(points), 2)] = True
            for number, point in enumerate(points):
                self.assertEqual(rank(region, *point), number)
                self.assertEqual(point_at(region, number), point)
            for number in (len(points), len(points) + 1, 10 ** 50):
                self.assertIsNone(point_at(region, number))
            for x, y in [(9, 9), (10 ** 50, 0)] + [(x + d, y + e) for x, y in points[:3]
                                                   for d in (-1, 0, 1) for e in (-1, 1)]:
                if (x, y) not in points:
                    self.assertIsNone(rank(region, x, y))
        self.assertEqual(sorted(seen), [0, 1, 2])

    def test_next_point(self):
        chance = generator(452)
        for _ in range(300):
            region, points = some_small_region(chance)
            wanted = points + [(x + d, y + e) for x, y in points[:4] for d in (-1, 0, 1)
                               for e in (-1, 1, 7)]
            wanted = wanted + [(0, 0), (-10 ** 50, 3), (10 ** 50, 3), (0, -10 ** 50), (0, 10 ** 50)]
            for x, y in wanted:
                behind = [point for point in points if point > (x, y)]
                self.assertEqual(next_point(region, x, y), behind[0] if behind else None)

    def test_fair_parts(self):
        chance = generator(453)
        for _ in range(200):
            region, points = some_small_region(chance)
            for parts in (1, 2, chance.randint(1, 20), len(points) or 1, len(points) + 5):
                found = fair_parts(region, parts)
                self.assertIs(type(found), list)
                self.assertEqual(len(found), parts)
                for part, first in enumerate(found):
                    low, high = [len(points) * at // parts for at in (part, part + 1)]
                    self.assertEqual(first, points[low] if low < high else None)
                self.assertIsNot(fair_parts(region, parts), found)
        region = Region(box_rows(5))
        found = fair_parts(region, 1000)
        self.assertEqual([point for point in found if point], points_of(region, 5))
        self.assertEqual([part for part, point in enumerate(found) if point][:3], [8, 16, 24])

    def test_columns_with(self):
        chance = generator(454)
        for _ in range(300):
            region, points = some_small_region(chance)
            columns = {}
            for x, _ in points:
                columns[x] = columns.get(x, 0) + 1
            for many in (1, 2, 3, chance.randint(1, 12), 10 ** 50):
                there = [x for x in sorted(columns) if columns[x] >= many]
                self.assertEqual(columns_with(region, many), there[0] if there else None)

    def test_one_point(self):
        region = Region([(1, 0, 7), (-1, 0, -7), (0, 1, -3), (0, -1, 3)])
        self.assertEqual(rank(region, 7, -3), 0)
        self.assertIsNone(rank(region, 7, -2))
        self.assertEqual([point_at(region, number) for number in (0, 1)], [(7, -3), None])
        self.assertEqual([next_point(region, 7, y) for y in (-5, -4, -3)], [(7, -3), (7, -3), None])
        self.assertEqual(fair_parts(region, 1), [(7, -3)])
        self.assertEqual(fair_parts(region, 3), [None, None, (7, -3)])
        self.assertEqual([columns_with(region, many) for many in (1, 2)], [7, None])

    def test_no_point(self):
        for rows in (
            [(0, 0, -1)], [(2, 4, 1), (-2, -4, -1)], [(1, 0, 0), (-1, 0, -1)], [(2, 0, 1), (-2, 0, -1)],
            [(3, 0, 2), (-3, 0, -1), (0, 1, 9), (0, -1, 9)],
        ):
            region = Region(rows)
            self.assertIsNone(rank(region, 0, 0))
            self.assertIsNone(point_at(region, 0))
            self.assertIsNone(next_point(region, -99, 0))
            self.assertEqual(fair_parts(region, 2), [None, None])
            self.assertIsNone(columns_with(region, 1))


class GreatRegionsTest(unittest.TestCase):
    def test_each_undoes_the_other(self):
        for region in great_regions():
            many = count(region)
            self.assertGreater(many, 10 ** 18)
            for number in (0, 1, many // 3, many // 2, many - 2, many - 1):
                point = point_at(region, number)
                self.assertTrue(region.has(*point))
                self.assertEqual(rank(region, *point), number)
                behind = next_point(region, *point)
                if number == many - 1:
                    self.assertIsNone(behind)
                else:
                    self.assertEqual(behind, point_at(region, number + 1))
            self.assertIsNone(point_at(region, many))

    def test_thousand_parts(self):
        for region in list(great_regions())[:5]:
            many = count(region)
            found = fair_parts(region, 1000)
            self.assertEqual(found, sorted(found))
            for part in (0, 1, 333, 500, 998, 999):
                self.assertEqual(rank(region, *found[part]), many * part // 1000)

    def test_columns(self):
        region = Region([(1, 1, MOST), (-1, 0, 0), (0, -1, 0)])
        self.assertEqual(columns_with(region, MOST + 1), 0)
        self.assertIsNone(columns_with(region, MOST + 2))
        region = Region([(-1, 1, 0), (-1, -1, 0), (1, 0, MOST)])
        self.assertEqual(columns_with(region, 10 ** 39), 5 * 10 ** 38)
        self.assertEqual(columns_with(region, 10 ** 39 + 2), 5 * 10 ** 38 + 1)
        self.assertEqual(columns_with(region, 2 * MOST + 1), MOST)
        self.assertIsNone(columns_with(region, 2 * MOST + 2))
        region = Region([(7, -5, 3), (-7, 5, 8), (1, 0, MOST), (-1, 0, MOST)])
        first = -MOST
        for many in (2, 3):
            while (7 * first + 8) // 5 - -((3 - 7 * first) // 5) + 1 < many:
                first = first + 1
            self.assertEqual(columns_with(region, many), first)
        self.assertIsNone(columns_with(region, 4))


class ErrorsTest(unittest.TestCase):
    # Each function with arguments that are fine, and such that are not with the value that is told.
    CASES = (
        (rank, (0, 0), (((None, "y"), None), ((True, 0), True), ((0, "y"), "y"), ((0, 1.0), 1.0))),
        (next_point, (0, 0), (((None, "y"), None), ((0, False), False), (("x", 0), "x"))),
        (point_at, (0,), (((-1,), -1), ((None,), None), ((True,), True), ((1.0,), 1.0))),
        (fair_parts, (2,), (((0,), 0), ((1001,), 1001), ((-1,), -1), ((None,), None), ((True,), True),
                            (("2",), "2"))),
        (columns_with, (1,), (((0,), 0), ((-1,), -1), ((None,), None), ((True,), True))),
    )

    def test_bad_numbers(self):
        for function, fine, bad in self.CASES:
            function(Region(box_rows(2)), *fine)
            for arguments, value in bad:
                for rows in (box_rows(2), [(0, 0, -1)]):
                    with self.assertRaises(BadNumber) as caught:
                        function(Region(rows), *arguments)
                    self.assertIs(caught.exception.value, value)

    def test_points_without_end(self):
        endless = ([], [(1, 0, 5)], [(7, 12, 5), (-7, -12, -5)], [(0, 1, 3), (0, -1, 3), (-1, 0, 0)])
        for function, fine, bad in self.CASES:
            for rows in endless:
                for arguments in [fine] + [arguments for arguments, _ in bad]:
                    with self.assertRaises(BadNumber) as caught:
                        function(Region(rows), *arguments)
                    self.assertIsNone(caught.exception.value)

    def test_too_large(self):
        for function, fine, bad in self.CASES:
            for rows, number in (
                ([(1, 0, 5)] * 41, 41), ([(10 ** 40, 0, 1)], 41), ([(0, -10 ** 42, 1)] * 2, 43),
                ([(0, 10 ** 50, 0)] * 44, 44),
            ):
                for arguments in [fine] + [arguments for arguments, _ in bad]:
                    with self.assertRaises(TooLarge) as caught:
                        function(Region(rows), *arguments)
                    self.assertEqual(caught.exception.number, number)
            function(Region(box_rows(2) + [(0, 0, MOST)] * 36), *fine)
        self.assertEqual(len(fair_parts(Region(box_rows(2)), 1000)), 1000)


if __name__ == "__main__":
    unittest.main()
