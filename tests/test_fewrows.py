"""The few rows that alone have no whole point ([7], [8])."""

import unittest

from pointorstrip.errors import TooLarge
from pointorstrip.fewrows import Few, few
from pointorstrip.judging import judge
from pointorstrip.papers import Empty, Point, Thin
from pointorstrip.regions import Region
from trying import box_rows, check_equality, generator, refutes, some_rows, some_turn

FOUR = [(4, 4, 7), (-4, -4, -1), (4, -4, 3), (-4, 4, 3)]
THREE = [(3, 3, 5), (-3, 0, -1), (0, -3, -1)]
TWO = [(2, 4, 1), (-2, -4, -1)]
ONE = [(0, 0, -1)]
IDLE = [(1, 0, 90), (0, 0, 0), (-1, -1, 95)]


class FewTest(unittest.TestCase):
    def check(self, rows):
        """few(region), held against all that the document says of it."""
        region = Region(rows)
        found = few(region)
        if judge(region):
            self.assertIsNone(found)
            return None
        self.assertIsInstance(found, Few)
        self.assertTrue(found)
        numbers = found.numbers
        self.assertIs(type(numbers), tuple)
        self.assertIs(type(found.points), tuple)
        self.assertEqual(list(numbers), sorted(set(numbers)))
        self.assertIn(len(numbers), (1, 2, 3, 4))
        self.assertEqual(len(found.points), len(numbers))
        self.assertTrue(refutes(found.paper, [rows[number] for number in numbers]))
        for number, point in zip(numbers, found.points):
            self.assertIs(type(point), tuple)
            others = [rows[other] for other in numbers if other != number]
            self.assertTrue(Region(others).has(*point))
            self.assertFalse(Region([rows[number]]).has(*point))
        self.assertIs(found.shows(region), True)
        return found

    def test_by_hand(self):
        self.assertIsNone(self.check([]))
        self.assertIsNone(self.check(IDLE))
        self.assertIsNone(self.check(THREE[1:]))
        for rows in (ONE, TWO, THREE, FOUR):
            self.assertEqual(self.check(rows).numbers, tuple(range(len(rows))))
            self.assertEqual(len(self.check(IDLE + rows).numbers), len(rows))
            self.assertEqual(len(self.check(rows[::-1] + IDLE).numbers), len(rows))
        self.assertEqual(self.check(IDLE[:2] + TWO + IDLE).numbers, (2, 3))
        self.assertEqual(self.check([FOUR[0], IDLE[0]] + FOUR[1:]).numbers, (0, 2, 3, 4))
        self.assertIsInstance(self.check(ONE).paper, Empty)
        self.assertIsInstance(self.check(FOUR).paper, Thin)
        # Empty as they are, three of these rows are needed; of equal rows one.
        self.assertEqual(self.check([(1, 0, 0), (0, 1, 0), (-1, -1, -1)]).numbers, (0, 1, 2))
        self.assertEqual(len(self.check(TWO * 5).numbers), 2)

    def test_some_regions(self):
        chance = generator(11)
        sizes = dict.fromkeys(range(5), 0)
        for _ in range(700):
            rows = some_rows(chance, 8) + box_rows(chance.randint(0, 4))[:chance.randint(0, 4)]
            found = self.check(rows)
            sizes[len(found.numbers) if found else 0] += 1
        self.assertGreater(sizes[0] * sizes[2] * sizes[3], 0)

    def test_long_regions(self):
        chance = generator(12)
        for _ in range(10):
            for rows in (FOUR, THREE, TWO):
                turn = some_turn(chance, 10 ** 120)
                rows = rows + [
                    (a, b, a + b + 2 * (abs(a) + abs(b)) + 3)
                    for a, b in [(chance.randint(-99, 99), chance.randint(-99, 99))] * 56
                ]
                found = self.check(turn.region(Region(rows)).rows)
                self.assertLessEqual(len(found.numbers), 4)

    def test_shows(self):
        rows = IDLE[:1] + FOUR + IDLE[1:]
        region = Region(rows)
        found = few(region)
        numbers, paper, points = found.numbers, found.paper, found.points
        self.assertEqual(numbers, (1, 2, 3, 4))

        def shows(*parts):
            return Few(*parts).shows(region)

        self.assertIs(shows(numbers, paper, points), True)
        # Not ascending, one twice, one left out, one too many, none, no number of a row.
        swapped = ((2, 1, 3, 4), paper, (points[1], points[0]) + points[2:])
        self.assertIs(shows(*swapped), False)
        self.assertIs(shows((1, 1, 3, 4), paper, points), False)
        self.assertIs(shows((1, 2, 3), paper, points[:3]), False)
        self.assertIs(shows((0, 1, 2, 3, 4), paper, ((0, 0),) + points), False)
        self.assertIs(shows((), paper, ()), False)
        self.assertIs(shows((1, 2, 3, 7), paper, points), False)
        self.assertIs(shows((1, 2, 3, 70), paper, points), False)
        self.assertIs(shows((-4, 2, 3, 4), paper, points), False)
        # Another paper.
        self.assertIs(shows(numbers, Thin(1, 5), points), False)
        self.assertIs(shows(numbers, Thin(2, 2), points), False)
        self.assertIs(shows(numbers, Empty([1, 1, 0, 0]), points), False)
        self.assertIs(shows(numbers, Point(0, 0), points), False)
        self.assertIs(shows(numbers, None, points), False)
        # Points exchanged, left out, too many, one at which another row fails.
        self.assertIs(shows(numbers, paper, points[::-1]), False)
        self.assertIs(shows(numbers, paper, points[:3]), False)
        self.assertIs(shows(numbers, paper, points + points[:1]), False)
        for at in range(4):
            bent = list(points)
            for other in range(4):
                if other != at:
                    bent[at] = points[other]
                    self.assertIs(shows(numbers, paper, tuple(bent)), False)
        # The paper is one of these rows alone, in this order.
        empty = Region([(0, 0, 0), (1, 0, 0), (-2, 0, -1)])
        self.assertIs(Few((1, 2), Empty([2, 1]), ((1, 0), (0, 0))).shows(empty), True)
        self.assertIs(Few((1, 2), Empty([1, 2]), ((1, 0), (0, 0))).shows(empty), False)
        self.assertIs(Few((1, 2), Empty([0, 2, 1]), ((1, 0), (0, 0))).shows(empty), False)
        # No row has the number -1, whatever stands at the end.
        self.assertIs(Few((-1, 1), Empty([1, 2]), ((0, 0), (1, 0))).shows(
            Region([(0, 0, 0), (1, 0, 0), (-2, 0, -1)])), False)
        # Rows that show nothing more than others can be left out.
        more = Region([(1, 0, 0), (-1, 0, -1), (0, 1, 5)])
        told = ((1, 0), (0, 0), (0, 9))
        self.assertIs(Few((0, 1, 2), Empty([1, 1, 0]), told).shows(more), False)

    def test_shows_for_large_regions(self):
        long = 10 ** 400
        rows = [(0, 0, long)] * 70 + [(2 * long, 4 * long, long), (-2, -4, -1)]
        found = Few((70, 71), Thin(1, 2), ((5, 5), (0, 0)))
        self.assertIs(found.shows(Region(rows)), True)
        self.assertIs(Few((69, 71), Thin(1, 2), ((5, 5), (0, 0))).shows(Region(rows)), False)

    def test_equality(self):
        arguments = [(0,), Empty([1]), ((0, 0),)]
        check_equality(self, Few, arguments, [(1,), Empty([2]), ((0, 1),)])

    def test_bounds(self):
        most = 10 ** 300
        self.assertIsNone(few(Region([(1, 2, 3)] * 60)))
        self.assertIsNone(few(Region([(1, 2, most - 1)])))
        for number, rows in (
            (61, [(1, 2, 3)] * 61), (301, [(1, 2, most)]), (301, [(-most, 2, 0)]),
            (61, [(1, 2, most)] * 61),
        ):
            with self.assertRaises(TooLarge) as caught:
                few(Region(rows))
            self.assertEqual(caught.exception.number, number)


if __name__ == "__main__":
    unittest.main()
