"""The direction in which a region is least wide, on which the decision rests ([5], [6])."""

import unittest
from fractions import Fraction
from math import gcd

from pointorstrip.bases import narrow_turn
from pointorstrip.outlines import Outline
from pointorstrip.regions import Region
from trying import box_rows, generator, some_rows, some_turn


def width(points, u, v):
    values = [Fraction(u * x + v * y, d) for x, y, d in points]
    return max(values) - min(values)


class NarrowTurnTest(unittest.TestCase):
    def check(self, points):
        turn = narrow_turn(points)
        wide = width(points, turn.a, turn.b)
        for i in range(-4, 5):
            for j in range(-4, 5):
                if gcd(i, j) == 1:
                    other = width(points, i * turn.a + j * turn.c, i * turn.b + j * turn.d)
                    self.assertLessEqual(wide, other, points)

    def test_regions(self):
        chance = generator(111)
        for _ in range(400):
            region = Region(some_rows(chance) + box_rows(chance.randint(1, 8)))
            if chance.random() < 0.7:
                region = some_turn(chance, chance.choice([5, 100, 10 ** 30])).region(region)
            outline = Outline(region.rows)
            if outline.weights is None:
                self.check(outline.outer_points())

    def test_points(self):
        chance = generator(112)
        for _ in range(600):
            size = chance.choice([2, 10, 100, 10 ** 9])
            other = chance.choice([1, 3, size, size ** 2])
            points = []
            for _ in range(chance.choice([1, 2, 3, 4, 4, 5, 12])):
                x, y = chance.randint(-size, size), chance.randint(-other, other)
                points.append((x + 2 * y, x + 3 * y, chance.randint(1, 4)))
            self.check(points)


if __name__ == "__main__":
    unittest.main()
