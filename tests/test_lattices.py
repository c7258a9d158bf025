"""Lattices and rests ([29], [30])."""

import unittest
from math import gcd, lcm

from pointorstrip.errors import BadNumber, TooLarge
from pointorstrip.judging import judge
from pointorstrip.lattices import Lattice, congruent, judge_within, meeting
from pointorstrip.papers import Empty, Point, Thin
from pointorstrip.regions import Region
from trying import box_rows, check_equality, generator, points_of, some_rows


def some_lattice(chance, size):
    while True:
        pairs = [(chance.randint(-size, size), chance.randint(-size, size)) for _ in range(3)]
        if pairs[0][0] * pairs[1][1] != pairs[0][1] * pairs[1][0]:
            return Lattice(*pairs)


class LatticeTest(unittest.TestCase):
    def test_by_hand(self):
        lattice = Lattice((2, 1), (0, 3), (5, -7))
        self.assertEqual(lattice.size(), 6)
        self.assertEqual(Lattice((0, 3), (2, 1), (5, -7)).size(), 6)
        self.assertEqual(lattice.point(0, 0), (5, -7))
        self.assertEqual(lattice.point(1, 0), (7, -6))
        self.assertEqual(lattice.point(-2, 5), (1, 6))
        self.assertIs(type(lattice.point(1, 1)), tuple)
        self.assertEqual(lattice.times(1, 6), (-2, 5))
        self.assertIs(type(lattice.times(1, 6)), tuple)
        self.assertIsNone(lattice.times(2, 6))
        self.assertIsNone(lattice.times(1, 5))
        self.assertIsNone(lattice.times(0, 0))
        self.assertEqual((lattice.one, lattice.other, lattice.start), ((2, 1), (0, 3), (5, -7)))

    def test_point_and_times_undo_one_another(self):
        chance = generator(291)
        for _ in range(60):
            lattice = some_lattice(chance, chance.choice([1, 4, 9]))
            seen = {}
            for i in range(-12, 13):
                for j in range(-12, 13):
                    point = lattice.point(i, j)
                    self.assertEqual(lattice.times(*point), (i, j))
                    self.assertNotIn(point, seen)
                    seen[point] = True
            inside = [(x, y) for x in range(-9, 10) for y in range(-9, 10)
                      if lattice.times(x, y) is not None]
            for x, y in inside:
                self.assertEqual(lattice.point(*lattice.times(x, y)), (x, y))
            size = lattice.size()
            # In a square as wide as the determinant one point in size lies in the lattice.
            if size < 40:
                many = [lattice.times(x, y) for x in range(size) for y in range(size)]
                self.assertEqual(len(many) - many.count(None), size)
        long = 10 ** 200
        lattice = Lattice((long, 1), (1, 0), (-long, long))
        self.assertEqual(lattice.size(), 1)
        self.assertEqual(lattice.times(*lattice.point(7 * long, -5)), (7 * long, -5))

    def test_pulled(self):
        lattice = Lattice((2, 1), (0, 3), (5, -7))
        region = Region([(1, 0, 9), (0, -1, 4), (3, 2, 1)])
        self.assertEqual(lattice.pulled(region),
                         Region([(2, 0, 4), (-1, -3, -3), (8, 6, 0)]))
        self.assertEqual(lattice.pulled(Region([])), Region([]))
        self.assertEqual(region.rows, ((1, 0, 9), (0, -1, 4), (3, 2, 1)))
        chance = generator(292)
        for _ in range(60):
            lattice = some_lattice(chance, 5)
            region = Region(some_rows(chance))
            pulled = lattice.pulled(region)
            for i in range(-6, 7):
                for j in range(-6, 7):
                    self.assertEqual(pulled.has(i, j), region.has(*lattice.point(i, j)))

    def test_judge_within(self):
        chance = generator(293)
        told = {Point: 0, Thin: 0, Empty: 0}
        for _ in range(300):
            size = chance.randint(1, 6)
            lattice = some_lattice(chance, 4)
            region = Region(some_rows(chance) + box_rows(size))
            answer = judge_within(region, lattice)
            self.assertIs(type(answer), tuple)
            found, point = answer
            self.assertTrue(found.shows(lattice.pulled(region)))
            told[type(found)] += 1
            there = [p for p in points_of(region, size) if lattice.times(*p) is not None]
            if there:
                self.assertIsInstance(found, Point)
                self.assertEqual(point, lattice.point(found.x, found.y))
                self.assertIs(type(point), tuple)
                self.assertIn(point, there)
            else:
                self.assertIn(type(found), (Thin, Empty))
                self.assertIsNone(point)
        self.assertGreater(min(told.values()), 20)

    def test_judge_within_too_large(self):
        plain = Lattice((1, 0), (0, 1), (0, 0))
        for rows, lattice, number in (
            ([(1, 2, 3)] * 61, plain, 61), ([(10 ** 300, 0, 0)], plain, 301),
            ([(10 ** 299, 0, 0)], Lattice((10, 0), (0, 1), (0, 0)), 301),
            ([(1, 0, 0)], Lattice((1, 0), (0, 1), (10 ** 305, 0)), 306),
        ):
            with self.assertRaises(TooLarge) as caught:
                judge_within(Region(rows), lattice)
            self.assertEqual(caught.exception.number, number)
        # The pulled region counts: here what was too long grows short.
        long = Region([(10 ** 300, 1, 10 ** 300)])
        with self.assertRaises(TooLarge):
            judge(long)
        found, point = judge_within(long, Lattice((1, 1 - 10 ** 300), (0, 1), (1, 0)))
        self.assertTrue(long.has(*point))
        self.assertTrue(found)
        self.assertTrue(judge_within(Region([(1, 2, 3)] * 60), plain)[0])

    def test_errors(self):
        fine = (1, 0)
        for bad in (None, 5, (), (1,), (1, 2, 3), [1, 0], (1, None), (True, 1), (1, 2.0), "ab"):
            for told in ((bad, fine, fine), (bad, None, 7), (fine, bad, fine), (fine, bad, None),
                         (fine, (0, 1), bad), (fine, fine, bad), ((0, 0), (0, 0), bad)):
                with self.assertRaises(BadNumber) as caught:
                    Lattice(*told)
                self.assertIs(caught.exception.value, bad)
        for one, other in (((0, 0), (1, 2)), ((1, 2), (0, 0)), ((2, 4), (-3, -6)), ((5, 5), (5, 5))):
            with self.assertRaises(BadNumber) as caught:
                Lattice(one, other, (1, 1))
            self.assertEqual(caught.exception.value, 0)
            self.assertIs(type(caught.exception.value), int)

    def test_equality(self):
        check_equality(self, Lattice, [(1, 2), (3, 4), (5, 6)], [(2, 1), (4, 3), (6, 5)])


class RestsTest(unittest.TestCase):
    def test_congruent(self):
        self.assertEqual(congruent([(2, 5), (-1, 3)]), Lattice((5, 0), (0, 3), (2, -1)))
        self.assertEqual(congruent(((12, 5), (0, 1))), Lattice((5, 0), (0, 1), (12, 0)))
        for r, m in ((0, 1), (3, 4), (-2, 6), (9, 2)):
            for s, n in ((0, 1), (1, 2), (-5, 3)):
                lattice = congruent([(r, m), (s, n)])
                self.assertEqual(lattice.size(), m * n)
                for x in range(-12, 13):
                    for y in range(-12, 13):
                        leaves = (x - r) % m == 0 and (y - s) % n == 0
                        self.assertEqual(lattice.times(x, y) is not None, leaves)

    def test_meeting(self):
        lacking = 0
        for m in range(1, 13):
            for n in range(1, 13):
                for r, s in ((0, 0), (1, 2), (5, -7), (-3, 40), (100, 4)):
                    found = meeting((r, m), (s, n))
                    both = lcm(m, n)
                    leaves = [x for x in range(both) if (x - r) % m == 0 and (x - s) % n == 0]
                    if leaves:
                        self.assertEqual(found, (leaves[0], both), (r, m, s, n))
                        self.assertIs(type(found), tuple)
                    else:
                        self.assertIsNone(found)
                        self.assertGreater(gcd(m, n), 1)
                        lacking += 1
        self.assertGreater(lacking, 50)

    def test_by_hand(self):
        self.assertEqual(meeting((2, 3), (3, 5)), (8, 15))
        self.assertEqual(meeting((1, 4), (3, 6)), (9, 12))
        self.assertIsNone(meeting((1, 4), (2, 6)))
        self.assertEqual(meeting((7, 1), (-9, 1)), (0, 1))
        self.assertEqual(meeting((7, 10), (7, 10)), (7, 10))
        long = 10 ** 200
        least, both = meeting((1, long), (0, long + 1))
        self.assertEqual(both, long * (long + 1))
        self.assertEqual((least % long, least % (long + 1)), (1, 0))
        self.assertTrue(0 <= least < both)
        self.assertIsNone(meeting((1, 2 * long), (0, long)))

    def check_errors(self, call):
        for one, other, value in (
            ((None, "m"), ("s", 0), None), ((1, "m"), ("s", 0), "m"), ((True, 5), (1, 2), True),
            ((1, False), (1, 2), False), ((1, 0), ("s", 0), 0), ((1, -3), (None, None), -3),
            ((1, 2), ("s", 0), "s"), ((1, 2), (1, None), None), ((1, 2), (1.0, 0), 1.0),
            ((1, 2), (1, 0), 0), ((1, 2), (1, -1), -1), (("r", 0), (1, 2), "r"),
        ):
            with self.assertRaises(BadNumber) as caught:
                call(one, other)
            self.assertIs(caught.exception.value, value)

    def test_errors(self):
        self.check_errors(meeting)
        self.check_errors(lambda one, other: congruent([one, other]))


if __name__ == "__main__":
    unittest.main()
