"""Points that a row parts from others ([38])."""

import unittest

from pointorstrip.errors import BadNumber, TooLarge
from pointorstrip.hulls import sides
from pointorstrip.parting import Meeting, Parted, part
from trying import check_equality, generator, hull_of_points


def hulls_meet(points, others):
    """Whether the hulls of points and of others meet: a corner of one in the other, or sides cross."""
    def within(point, rows):
        return all(a * point[0] + b * point[1] <= c for a, b, c in rows)

    one, other = hull_of_points(points), hull_of_points(others)
    if any(within(point, sides(other)) for point in one):
        return True
    if any(within(point, sides(one)) for point in other):
        return True

    def across(p, q, r):
        return (q[0] - p[0]) * (r[1] - p[1]) - (q[1] - p[1]) * (r[0] - p[0])

    for at, p in enumerate(one):
        q = one[at - 1]
        for number, r in enumerate(other):
            s = other[number - 1]
            if across(p, q, r) * across(p, q, s) < 0 and across(r, s, p) * across(r, s, q) < 0:
                return True
    return False


class PartTest(unittest.TestCase):
    def check(self, points, others):
        """part(..), held against what the document says of it; the numbers of points it takes."""
        found = part(points, others)
        self.assertIs(found.shows(points, others), True)
        self.assertIs(bool(found), isinstance(found, Parted))
        if isinstance(found, Parted):
            a, b, c = found.row
            self.assertIs(type(found.row), tuple)
            self.assertTrue(all(type(number) is int for number in found.row))
            self.assertTrue(all(a * x + b * y <= c for x, y in points))
            self.assertTrue(all(a * x + b * y > c for x, y in others))
            return None
        self.assertIsInstance(found, Meeting)
        self.check_side(found.numbers, found.weights, points)
        self.check_side(found.others, found.late, others)
        self.assertLessEqual(len(found.numbers) + len(found.others), 4)
        self.assertEqual(sum(found.weights), sum(found.late))
        for at in (0, 1):
            self.assertEqual(
                sum(weight * points[number][at] for number, weight in zip(found.numbers, found.weights)),
                sum(weight * others[number][at] for number, weight in zip(found.others, found.late)))
        return len(found.numbers), len(found.others)

    def check_side(self, numbers, weights, points):
        self.assertIs(type(numbers), tuple)
        self.assertIs(type(weights), tuple)
        self.assertTrue(len(numbers) == len(weights) > 0)
        self.assertTrue(all(0 <= number < len(points) for number in numbers))
        self.assertEqual(len(numbers), len(set(numbers)))
        self.assertTrue(all(weight > 0 for weight in weights))

    def test_by_hand(self):
        square = [(0, 0), (4, 0), (4, 4), (0, 4)]
        self.assertIsNone(self.check(square, [(5, 0)]))
        self.assertIsNone(self.check([(5, 0)], square))
        self.assertIsNone(self.check([(0, 0)], [(1, 0)]))
        self.assertIsNone(self.check([(0, 0)], [(0, -1)]))
        # One in common.
        self.assertEqual(self.check([(3, 3)], [(3, 3)]), (1, 1))
        self.assertEqual(self.check(square, [(9, 9), (4, 4)]), (1, 1))
        # One on a line between two.
        self.assertEqual(self.check([(0, 0), (4, 2)], [(2, 1)]), (2, 1))
        self.assertEqual(self.check([(3, 0)], [(0, 0), (9, 0)]), (1, 2))
        # One within three.
        self.assertEqual(self.check([(0, 0), (5, 0), (0, 5)], [(1, 1)]), (3, 1))
        self.assertEqual(self.check([(1, 2)], [(0, 5), (5, 0), (0, 0)]), (1, 3))
        # Two and two that cross.
        self.assertEqual(self.check([(0, 0), (2, 2)], [(0, 2), (2, 0)]), (2, 2))
        self.assertEqual(self.check([(2, 2), (0, 0)], [(0, 2), (2, 0)]), (2, 2))
        self.assertEqual(self.check([(0, 0), (7, 1)], [(3, -5), (2, 8)]), (2, 2))
        # The same one twice.
        self.assertEqual(self.check([(1, 1), (1, 1)], [(1, 1), (1, 1)]), (1, 1))
        self.assertIsNone(self.check([(1, 1), (1, 1)], [(1, 2), (1, 2)]))
        self.assertEqual(self.check([(0, 0)] * 6 + [(2, 2)] * 6, [(1, 1)] * 12), (2, 1))
        # Not by a row that is not strict.
        self.assertEqual(self.check([(0, 0), (4, 0)], [(2, 0), (2, 5)]), (2, 1))

    def test_all_on_a_line(self):
        for d, e in ((1, 0), (0, 1), (2, -3), (-1, -1)):
            def on(*places):
                return [(d * place + 5, e * place - 7) for place in places]

            self.assertIsNone(self.check(on(0, 1, 2), on(3, 5)))
            self.assertIsNone(self.check(on(7, 9), on(3, 5, 6)))
            self.assertEqual(sum(self.check(on(0, 3), on(1, 5))), 3)
            self.assertEqual(sum(self.check(on(1, 5), on(0, 3))), 3)
            self.assertEqual(self.check(on(0, 9), on(3, 5, 6)), (2, 1))
            self.assertEqual(self.check(on(0, 3), on(3, 5, 6)), (1, 1))
            self.assertIsNone(self.check(on(0), on(1)))

    def test_against_hulls(self):
        chance = generator(381)
        seen = {}
        for _ in range(1500):
            size = chance.choice([1, 2, 4, 10, 10 ** 30])
            points, others = [
                [(chance.randint(-size, size), chance.randint(-size, size))
                 for _ in range(chance.choice([1, 2, 3, 4, 8, 12]))] for _ in range(2)
            ]
            if chance.random() < 0.5:
                step = chance.randint(0, 2 * size)
                others = [(x + step, y + chance.choice([0, step])) for x, y in others]
            found = self.check(points, others)
            self.assertEqual(found is not None, hulls_meet(points, others), (points, others))
            seen[found] = seen.get(found, 0) + 1
        self.assertLessEqual({None, (1, 1), (1, 2), (2, 1), (1, 3), (3, 1), (2, 2)}, set(seen))
        self.assertGreater(min(seen.values()), 5)

    def test_parted_shows(self):
        points, others = [(0, 0), (2, 1)], [(3, 0), (1, -2)]
        for row, does in (
            ((1, -1, 1), True), ((1, -1, 2), True), ((2, -2, 3), True), ((1, -1, 0), False),
            ((1, -1, 3), False), ((-1, 1, -1), False), ((1, 0, 2), False), ((0, 0, 0), False),
            ((10 ** 400, -10 ** 400, 10 ** 400), True),
        ):
            self.assertIs(Parted(row).shows(points, others), does)
            self.assertIs(Parted(row).shows(tuple(points), tuple(others)), does)
            if does:
                self.assertIs(Parted(row).shows(others, points), False)
        for row in (None, (1, -1), (1, -1, 1, 0), (1, -1, None), (True, -1, 1), 5):
            self.assertIs(Parted(row).shows(points, others), False)

    def test_meeting_shows(self):
        points, others = [(9, 9), (0, 0), (4, 2)], [(7, 7), (2, 1), (3, 2)]
        parts = [(1, 2), (1, 1), (1,), (2,)]
        self.assertIs(Meeting(*parts).shows(points, others), True)
        self.assertIs(Meeting(*[list(one) for one in parts]).shows(points, others), True)
        self.assertIs(Meeting((2, 1), (5, 5), (1,), (10,)).shows(points, others), True)
        self.assertIs(Meeting(*parts).shows(others, points), False)
        for at, bent in (
            (0, (1,)), (0, (1, 0)), (0, (1, 3)), (0, (1, -1)), (0, ()), (0, (1, 2, 0)), (0, (0, 2)),
            (1, (1,)), (1, (2, 1)), (1, (1, 1, 1)), (1, (2, 0)), (1, (3, -1)), (1, ()), (1, (2, 2)),
            (2, (0,)), (2, (2,)), (2, (3,)), (2, (-2,)), (2, ()), (2, (1, 1)), (3, (1,)), (3, (0,)),
            (3, (-2,)), (3, ()), (3, (1, 1)), (3, (4,)),
        ):
            told = list(parts)
            told[at] = bent
            self.assertIs(Meeting(*told).shows(points, others), False, (at, bent))
        # Weights of 0 are none, nor are five numbers, nor none at all.
        self.assertIs(Meeting((0, 1, 2), (0, 1, 1), (1,), (2,)).shows(points, others), False)
        self.assertIs(Meeting((1, 2), (-1, -1), (1,), (-2,)).shows(points, others), False)
        self.assertIs(Meeting((), (), (), ()).shows(points, others), False)
        corners = [(0, 0), (2, 0), (0, 2), (2, 2)]
        self.assertIs(Meeting((0, 1, 2, 3), (1,) * 4, (0,), (4,)).shows(corners, [(1, 1)]), False)
        self.assertIs(Meeting((1, 2), (1, 1), (0, 1), (1, 1)).shows(corners, [(0, 1), (2, 1)]), True)
        self.assertIs(Meeting((0, 3), (1, 1), (0,), (2,)).shows(corners * 20, [(1, 1)] * 50), True)
        self.assertIs(Meeting((0, 79), (1, 1), (49,), (2,)).shows(corners * 20, [(1, 1)] * 50), True)
        # Sums of x alone, or of y, or of weights, are not enough.
        self.assertIs(Meeting((0,), (1,), (0,), (1,)).shows([(1, 2)], [(1, 3)]), False)
        self.assertIs(Meeting((0,), (1,), (0,), (1,)).shows([(2, 1)], [(3, 1)]), False)
        self.assertIs(Meeting((0,), (2,), (0,), (1,)).shows([(1, 1)], [(2, 2)]), False)
        self.assertIs(Meeting((0,), (2,), (0,), (1,)).shows([(0, 0)], [(0, 0)]), False)

    def test_many_points(self):
        twelve = [(x, x * x) for x in range(12)]
        self.assertIsNone(self.check(twelve, [(x, x * x - 1) for x in range(1, 2)]))
        self.assertIsNone(self.check(twelve, [(x, -1 - x) for x in range(12)]))
        self.assertEqual(self.check(twelve, [(x, x * x + 1) for x in range(12)])[1], 1)
        self.assertEqual(sum(self.check(twelve, [(11 - x, x * x) for x in range(12)])) <= 4, True)

    def test_errors(self):
        fine = [(0, 0)]
        for bad in (None, 5, {(0, 0)}, {}, "ab", True):
            for points, others in ((bad, None), (bad, [(0, 0)] * 13), (fine, bad)):
                with self.assertRaises(BadNumber) as caught:
                    part(points, others)
                self.assertIs(caught.exception.value, bad)
        for bad in (None, 5, [0, 0], (1,), (), (1, 2, 3), (1, None), (True, 0), (0, 1.0), "ab"):
            for points, others in (
                ([bad], None), ([(0, 0)] * 30 + [bad], fine), ((bad, 7), fine), ([(0, 0), bad], []),
                (fine, [bad]), (fine, [(0, 0)] * 30 + [bad, 5]), (fine, ((0, 0), bad)),
            ):
                with self.assertRaises(BadNumber) as caught:
                    part(points, others)
                self.assertIs(caught.exception.value, bad)
        for points, others, many in (
            ([], None, 0), ((), fine, 0), (fine * 13, None, 13), (fine * 40, [], 40), (fine, [], 0),
            (fine, fine * 13, 13), (fine, ((0, 0),) * 100, 100),
        ):
            with self.assertRaises(TooLarge) as caught:
                part(points, others)
            self.assertEqual(caught.exception.number, many)
        self.check(fine * 12, fine * 12)

    def test_equality(self):
        check_equality(self, Parted, [(1, 2, 3)], [(1, 2, 4)])
        check_equality(self, Meeting, [(0,), (1,), (2,), (3,)], [(1,), (2,), (3,), (4,)])
        points = [(0, 0), (2, 2)]
        part(points, [(1, 1)])
        self.assertEqual(points, [(0, 0), (2, 2)])


if __name__ == "__main__":
    unittest.main()
