"""Turning and stretching the plane ([15])."""

import unittest
from math import gcd

from pointorstrip.errors import BadNumber
from pointorstrip.moving import Turn, inverse, scaled
from pointorstrip.regions import Region
from trying import check_equality, generator, points_of, some_rows, some_turn


class TurnTest(unittest.TestCase):
    def turns(self, seed, many):
        chance = generator(seed)
        for _ in range(many):
            turn = some_turn(chance, chance.choice([2, 5, 10 ** 30]))
            if chance.random() < 0.5:
                # The same with the determinant -1.
                turn = Turn(turn.c, turn.d, turn.a, turn.b, turn.e, turn.f)
            yield chance, turn

    def test_by_hand(self):
        turn = Turn(2, 3, 1, 2, 10, 20)
        self.assertEqual(turn.point(1, 0), (12, 21))
        self.assertEqual(turn.point(0, 1), (13, 22))
        self.assertEqual(turn.point(5, -7), (-1, 11))
        self.assertEqual(turn.back(), Turn(2, -3, -1, 2, 40, -30))
        self.assertEqual(turn.row((1, 0, 4)), (2, -3, -36))
        self.assertEqual(turn.row((0, 1, 0)), (-1, 2, 30))
        mirror = Turn(0, 1, 1, 0, 3, 0)
        self.assertEqual(mirror.point(5, 7), (10, 5))
        self.assertEqual(mirror.back(), Turn(0, 1, 1, 0, 0, -3))
        self.assertEqual(mirror.row((2, 5, 1)), (5, 2, 16))
        self.assertIs(type(turn.point(1, 1)), tuple)
        self.assertIs(type(turn.row((1, 1, 1))), tuple)

    def test_back_undoes_it(self):
        for chance, turn in self.turns(61, 200):
            back = turn.back()
            self.assertEqual(back.back(), turn)
            for _ in range(5):
                x, y = chance.randint(-99, 99), chance.randint(-99, 99)
                self.assertEqual(back.point(*turn.point(x, y)), (x, y))
                self.assertEqual(turn.point(*back.point(x, y)), (x, y))

    def test_rows_hold_where_points_go(self):
        for chance, turn in self.turns(62, 200):
            row = tuple(chance.randint(-9, 9) for _ in range(3))
            a, b, c = turn.row(row)
            self.assertEqual(turn.back().row((a, b, c)), row)
            for _ in range(5):
                x, y = chance.randint(-9, 9), chance.randint(-9, 9)
                s, t = turn.point(x, y)
                # Just as much is left over.
                self.assertEqual(c - a * s - b * t, row[2] - row[0] * x - row[1] * y)

    def test_regions(self):
        for chance, turn in self.turns(63, 100):
            region = Region(some_rows(chance))
            turned = turn.region(region)
            self.assertIsInstance(turned, Region)
            self.assertEqual(turned.rows, tuple(turn.row(row) for row in region.rows))
            for x, y in [(chance.randint(-9, 9), chance.randint(-9, 9)) for _ in range(20)]:
                self.assertEqual(region.has(x, y), turned.has(*turn.point(x, y)))

    def test_equality(self):
        arguments = [1, 0, 0, 1, 2, 3]
        check_equality(self, Turn, arguments, [-1, 5, 5, -1, 0, 0])
        self.assertTrue(Turn(1, 0, 0, 1, 0, 0))

    def test_errors(self):
        for arguments, value in (
            (("a", None, 0, 0, 0, 0), "a"), ((1, True, 0, 1, 0, 0), True),
            ((1, 0, 1.0, "d", 0, 0), 1.0), ((1, 0, 0, None, 0, 0), None),
            ((0, 0, 0, 0, "e", "f"), "e"), ((0, 0, 0, 0, 0, False), False),
            ((2, 0, 0, 1, 0, 0), 2), ((1, 1, 1, 1, 0, 0), 0), ((0, 3, 1, 0, 0, 0), -3),
            ((10 ** 40, 0, 0, 10 ** 40, 0, 0), 10 ** 80),
        ):
            with self.assertRaises(BadNumber) as caught:
                Turn(*arguments)
            self.assertIs(type(caught.exception.value), type(value))
            self.assertEqual(caught.exception.value, value)


class ScaledTest(unittest.TestCase):
    def test_rows(self):
        region = Region([(1, 2, 3), (-4, 5, -6)])
        self.assertEqual(scaled(region, 1), region)
        self.assertEqual(scaled(region, 7).rows, ((1, 2, 21), (-4, 5, -42)))
        self.assertEqual(region.rows, ((1, 2, 3), (-4, 5, -6)))
        self.assertEqual(scaled(Region([]), 10 ** 99), Region([]))

    def test_points(self):
        chance = generator(64)
        for _ in range(100):
            region = Region(some_rows(chance))
            times = chance.randint(1, 6)
            for x, y in points_of(region, 3):
                self.assertTrue(scaled(region, times).has(times * x, times * y))

    def test_errors(self):
        for times in (0, -1, None, True, 1.0, "2"):
            with self.assertRaises(BadNumber) as caught:
                scaled(Region([(1, 1, 1)]), times)
            self.assertIs(caught.exception.value, times)


class InverseTest(unittest.TestCase):
    def test_all_small_ones(self):
        for modulus in range(1, 30):
            for number in range(-40, 41):
                if gcd(number, modulus) == 1:
                    found = inverse(number, modulus)
                    self.assertTrue(0 <= found < modulus)
                    self.assertEqual((found * number - 1) % modulus, 0)


if __name__ == "__main__":
    unittest.main()
