"""Fractions: the simplest between two, neighbours, whole parts ([48], [49])."""

import unittest
from math import gcd

from pointorstrip.errors import BadNumber, TooLarge
from pointorstrip.fractions import Neighbours, Simplest, neighbours, of_parts, parts_of, simplest
from pointorstrip.papers import Empty, Point, Thin
from trying import check_equality, generator, refutes

MOST = 10 ** 60 - 1

# What is no fraction.
NONE = (None, 5, "1/2", [1, 2], (1,), (1, 2, 3), (1, 0), (1, -2), (0, 0), (None, 2), (1, None),
        (True, 2), (1, True), (1.0, 2), ("1", 2), ())


def some_fraction(chance, most):
    return (chance.randint(-2 * most, 2 * most), chance.randint(1, most))


def less(one, other):
    return one[0] * other[1] < other[0] * one[1]


class SimplestTest(unittest.TestCase):
    def check(self, low, high):
        """simplest(..), held against what the document says of it."""
        found = simplest(low, high)
        self.assertIsInstance(found, Simplest)
        self.assertTrue(found)
        p, q = found.p, found.q
        self.assertTrue(q >= 1 and less(low, (p, q)) and less((p, q), high))
        self.assertFalse(less(low, (p - 1, q)))
        self.assertTrue(refutes(found.against, [
            (-low[1], low[0], -1), (high[1], -high[0], -1), (0, -1, -1), (0, 1, q - 1)]))
        self.assertIs(found.shows(low, high), True)
        return p, q

    def test_against_trying(self):
        chance = generator(481)
        for _ in range(600):
            low, high = some_fraction(chance, 12), some_fraction(chance, 12)
            if not less(low, high):
                low, high = high, low
            if less(low, high):
                p, q = self.check(low, high)
                tried = []
                for other in range(1, q + 1):
                    least = low[0] * other // low[1] + 1
                    if less((least, other), high):
                        tried.append((least, other))
                self.assertEqual(tried[:1], [(p, q)])

    def test_by_hand(self):
        for low, high, told in (
            ((0, 1), (1, 1), (1, 2)), ((-1, 1), (1, 1), (0, 1)), ((1, 3), (1, 2), (2, 5)),
            ((1, 2), (7, 2), (1, 1)), ((-7, 2), (-1, 2), (-3, 1)), ((3, 1), (5, 1), (4, 1)),
            ((3, 1), (6, 1), (4, 1)), ((-5, 1), (-2, 1), (-4, 1)), ((0, 5), (10, 10), (1, 2)),
            ((2, 4), (6, 8), (2, 3)), ((314, 100), (315, 100), (22, 7)), ((-2, 3), (-1, 3), (-1, 2)),
            ((-1, 2), (0, 9), (-1, 3)), ((99, 100), (1, 1), (100, 101)),
        ):
            self.assertEqual(self.check(low, high), told)

    def test_long_ones(self):
        self.assertEqual(self.check((-MOST, 1), (MOST, 1)), (1 - MOST, 1))
        self.assertEqual(self.check((0, MOST), (1, MOST)), (1, MOST + 1))
        self.assertEqual(self.check((MOST - 2, MOST - 1), (MOST - 1, MOST)),
                         (2 * MOST - 3, 2 * MOST - 1))
        chance = generator(482)
        for _ in range(100):
            p, q = chance.randint(-MOST, MOST), chance.randint(1, MOST)
            self.check((p, q), (p + chance.choice([1, 2, 10 ** 30]) if p < MOST // 2 else MOST, q))

    def test_shows(self):
        low, high = (1, 3), (1, 2)
        found = simplest(low, high)
        against = found.against
        self.assertIs(Simplest(2, 5, against).shows(low, high), True)
        for p, q in ((1, 5), (3, 5), (2, 4), (2, 6), (3, 7), (4, 10), (-2, -5), (2, 0), (1, 2), (1, 3)):
            for paper in (against, Thin(0, 1), Thin(1, 0)):
                self.assertIs(Simplest(p, q, paper).shows(low, high), False)
        for paper in (None, 5, Point(2, 5), Thin(0, 0), Thin(2, 0), Empty([0] * 4), Empty([1] * 4)):
            self.assertIs(Simplest(2, 5, paper).shows(low, high), False)
        for one, other in (((1, 4), high), (low, (2, 5)), ((2, 5), high), (high, low), (low, (2, 1))):
            self.assertIs(found.shows(one, other), False)
        # With 1 below, the least p counts.
        told = simplest((1, 2), (7, 2))
        self.assertEqual((told.p, told.q), (1, 1))
        self.assertIs(Simplest(2, 1, told.against).shows((1, 2), (7, 2)), False)
        self.assertIs(Simplest(2, 1, told.against).shows((1, 1), (7, 2)), True)
        self.assertIs(Simplest(MOST * MOST + 1, 1, Empty([0, 0, 1, 1])).shows((MOST * MOST, 1),
                                                                            (2 * MOST * MOST, 1)), True)

    def test_errors(self):
        for bad in NONE:
            for low, high in ((bad, (1, 2)), (bad, None), (bad, (10 ** 60, 1)), ((1, 2), bad)):
                with self.assertRaises(BadNumber) as caught:
                    simplest(low, high)
                self.assertIs(caught.exception.value, bad)
        for low, high, number in (
            ((MOST + 1, 1), None, 61), ((-MOST - 1, 1), (1, 2), 61), ((1, MOST + 1), (1, 0), 61),
            ((10 ** 61, 10 ** 63), (0, 1), 64), ((1, 2), (MOST + 1, 1), 61), ((9, 2), (1, 10 ** 70), 71),
        ):
            with self.assertRaises(TooLarge) as caught:
                simplest(low, high)
            self.assertEqual(caught.exception.number, number)
        for low, high in (((1, 2), (1, 2)), ((1, 2), (2, 4)), ((1, 2), (1, 3)), ((0, 1), (-1, 5)),
                          ((MOST, 1), (-MOST, MOST))):
            with self.assertRaises(BadNumber) as caught:
                simplest(low, high)
            self.assertIs(caught.exception.value, high)
        self.check((-MOST, MOST), (MOST, MOST))

    def test_equality(self):
        check_equality(self, Simplest, [1, 2, Thin(1, 0)], [2, 3, Thin(0, 1)])
        check_equality(self, Neighbours, [(1, 3), (1, 2)], [(0, 1), (1, 1)])


class NeighboursTest(unittest.TestCase):
    def check(self, fraction, most):
        """neighbours(..), held against what the document says of it."""
        found = neighbours(fraction, most)
        self.assertIsInstance(found, Neighbours)
        self.assertTrue(found)
        (p, q), (r, s) = found.low, found.high
        self.assertTrue(1 <= q <= most and 1 <= s <= most)
        self.assertEqual((gcd(p, q), gcd(r, s)), (1, 1))
        self.assertFalse(less(fraction, found.low) or less(found.high, fraction))
        if found.low != found.high:
            self.assertTrue(less(found.low, fraction) and less(fraction, found.high))
            self.assertEqual(r * q - p * s, 1)
            self.assertGreater(q + s, most)
        self.assertIs(found.shows(fraction, most), True)
        return found.low, found.high

    def test_against_trying(self):
        chance = generator(491)
        seen = {}
        for _ in range(800):
            fraction = some_fraction(chance, 40)
            most = chance.randint(1, 45)
            low = high = None
            for q in range(1, most + 1):
                under = (fraction[0] * q // fraction[1], q)
                over = (-(-fraction[0] * q // fraction[1]), q)
                if low is None or less(low, under):
                    low = under
                if high is None or less(over, high):
                    high = over
            self.assertEqual(self.check(fraction, most), (low, high))
            seen[low == high] = True
        self.assertEqual(len(seen), 2)

    def test_by_hand(self):
        for fraction, most, low, high in (
            ((3, 1), 1, (3, 1), (3, 1)), ((6, 4), 2, (3, 2), (3, 2)), ((6, 4), 1, (1, 1), (2, 1)),
            ((-6, 4), 1, (-2, 1), (-1, 1)), ((1, 3), 2, (0, 1), (1, 2)), ((-1, 3), 2, (-1, 2), (0, 1)),
            ((314159, 100000), 10, (25, 8), (22, 7)), ((314159, 100000), 113, (333, 106), (355, 113)),
            ((1, 100), 99, (0, 1), (1, 99)), ((99, 100), 99, (98, 99), (1, 1)), ((0, 7), 1, (0, 1), (0, 1)),
            ((-7, 7), 10 ** 90, (-1, 1), (-1, 1)),
        ):
            self.assertEqual(self.check(fraction, most), (low, high))

    def test_long_ones(self):
        chance = generator(492)
        for _ in range(200):
            fraction = (chance.randint(-MOST, MOST), chance.randint(1, MOST))
            for most in (1, 2, 10 ** 6, chance.randint(1, MOST), fraction[1] - 1 or 1, fraction[1], 10 ** 100):
                self.check(fraction, most)

    def test_shows(self):
        fraction, most = (2, 5), 4
        self.assertIs(Neighbours((1, 3), (1, 2)).shows(fraction, most), True)
        self.assertIs(Neighbours((1, 3), (1, 2)).shows((4, 10), 3), True)
        for low, high in (
            ((1, 2), (1, 3)), ((1, 3), (2, 4)), ((0, 1), (1, 2)), ((1, 3), (1, 1)), ((1, 4), (1, 2)),
            ((2, 5), (2, 5)), ((2, 5), (1, 2)), ((1, 3), (2, 5)), ((1, 3), (1, 3)), ((3, 8), (3, 7)),
            ((-1, -3), (1, 2)), ((1, 3), (-1, -2)), ((1, 0), (1, 2)), ((1, 3), (1, 0)), ((2, 6), (1, 2)),
            ((1, 4), (1, 3)), ((1, 2), (2, 3)),
        ):
            self.assertIs(Neighbours(low, high).shows(fraction, most), False, (low, high))
        self.assertIs(Neighbours((1, 3), (1, 2)).shows(fraction, 5), False)
        self.assertIs(Neighbours((1, 3), (1, 2)).shows(fraction, 2), False)
        self.assertIs(Neighbours((0, 1), (1, 2)).shows((1, 5), 1), False)
        self.assertIs(Neighbours((1, 2), (1, 1)).shows((4, 5), 1), False)
        self.assertIs(Neighbours((1, 3), (1, 2)).shows((1, 2), most), False)
        self.assertIs(Neighbours((1, 3), (1, 2)).shows((3, 5), most), False)
        self.assertIs(Neighbours((2, 5), (2, 5)).shows((4, 10), 5), True)
        self.assertIs(Neighbours((4, 10), (4, 10)).shows((4, 10), 10), False)
        # Both in lowest terms, close together, and still something lies between.
        self.assertIs(Neighbours((0, 1), (1, 1)).shows((1, 2), 1), True)
        self.assertIs(Neighbours((0, 1), (1, 1)).shows((1, 2), 2), False)

    def test_errors(self):
        for bad in NONE:
            for most in (3, 0, None):
                with self.assertRaises(BadNumber) as caught:
                    neighbours(bad, most)
                self.assertIs(caught.exception.value, bad)
        for fraction in ((MOST + 1, 1), (1, -10 ** 60 * -1)):
            for most in (3, 0):
                with self.assertRaises(TooLarge) as caught:
                    neighbours(fraction, most)
                self.assertEqual(caught.exception.number, 61)
        for most in (0, -1, None, True, 2.0, "3"):
            with self.assertRaises(BadNumber) as caught:
                neighbours((1, 2), most)
            self.assertIs(caught.exception.value, most)


class PartsTest(unittest.TestCase):
    def test_each_undoes_the_other(self):
        chance = generator(493)
        for size in (9, 60, 10 ** 9, MOST):
            for _ in range(200):
                p, q = chance.randint(-size, size), chance.randint(1, size)
                parts = parts_of((p, q))
                self.assertIs(type(parts), tuple)
                self.assertGreater(min((1,) + parts[1:]), 0)
                if len(parts) > 1:
                    self.assertGreater(parts[-1], 1)
                common = gcd(p, q)
                self.assertEqual(of_parts(parts), (p // common, q // common))
        for _ in range(300):
            parts = [chance.randint(-9, 9)] + [chance.randint(1, 5) for _ in range(chance.randint(0, 9))]
            if len(parts) > 1 and parts[-1] == 1:
                parts.append(2)
            self.assertEqual(parts_of(of_parts(parts)), tuple(parts))

    def test_by_hand(self):
        for fraction, parts in (
            ((5, 1), (5,)), ((10, 2), (5,)), ((0, 3), (0,)), ((-4, 1), (-4,)), ((1, 2), (0, 2)),
            ((-1, 2), (-1, 2)), ((7, 3), (2, 3)), ((-7, 3), (-3, 1, 2)), ((355, 113), (3, 7, 16)),
            ((99, 100), (0, 1, 99)),
        ):
            self.assertEqual(parts_of(fraction), parts)
        self.assertEqual(of_parts([3, 7, 15, 1]), (355, 113))
        self.assertEqual(of_parts((0, 1)), (1, 1))
        self.assertEqual(of_parts([-2]), (-2, 1))
        self.assertEqual(of_parts([0]), (0, 1))
        self.assertEqual(of_parts([1] * 10), (89, 55))
        self.assertEqual(of_parts([10 ** 100, 10 ** 100]), (10 ** 200 + 1, 10 ** 100))

    def test_errors(self):
        for bad in NONE:
            with self.assertRaises(BadNumber) as caught:
                parts_of(bad)
            self.assertIs(caught.exception.value, bad)
        with self.assertRaises(TooLarge) as caught:
            parts_of((1, MOST + 1))
        self.assertEqual(caught.exception.number, 61)
        for bad in (None, 5, "12", {1: 2}, [], ()):
            with self.assertRaises(BadNumber) as caught:
                of_parts(bad)
            self.assertIs(caught.exception.value, bad)
        for parts, value in (
            ([None, None], None), ([True, 2], True), (["1"], "1"), ([1.5, 0], 1.5), ([0, 0], 0),
            ([5, -1, None], -1), ([5, 1, None], None), ([5, False], False), ((0, 1, 2, 0), 0),
        ):
            with self.assertRaises(BadNumber) as caught:
                of_parts(parts)
            self.assertIs(caught.exception.value, value)


if __name__ == "__main__":
    unittest.main()
