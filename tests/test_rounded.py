"""Rounded lines ([16])."""

import math
import unittest
from fractions import Fraction

from pointorstrip.errors import BadNumber
from pointorstrip.rounded import Line
from trying import check_equality, generator


class LineTest(unittest.TestCase):
    def test_numbers(self):
        self.assertEqual([Line(3, 1, 4).at(x) for x in range(-5, 6)],
                         [-4, -3, -2, -2, -1, 0, 1, 1, 2, 3, 4])
        self.assertEqual([Line(-1, 0, 2).at(x) for x in range(-3, 4)], [1, 1, 0, 0, -1, -1, -2])
        chance = generator(71)
        for _ in range(300):
            a, b, m = chance.randint(-99, 99), chance.randint(-99, 99), chance.randint(1, 50)
            line = Line(a, b, m)
            self.assertEqual((line.a, line.b, line.m), (a, b, m))
            for x in (-10 ** 30, -1, 0, 1, chance.randint(-99, 99), 10 ** 30):
                self.assertEqual(line.at(x), math.floor(Fraction(a * x + b, m)))

    def test_raised(self):
        chance = generator(72)
        for _ in range(100):
            line = Line(chance.randint(-9, 9), chance.randint(-9, 9), chance.randint(1, 9))
            many, x = chance.randint(-50, 50), chance.randint(-50, 50)
            raised = line.raised(many)
            self.assertEqual(raised.at(x), line.at(x) + many)
            self.assertEqual(raised, Line(line.a, line.b + many * line.m, line.m))

    def test_equality(self):
        check_equality(self, Line, [1, 2, 3], [0, 0, 1])
        # The same numbers everywhere, and not equal.
        self.assertNotEqual(Line(1, 0, 2), Line(2, 0, 4))
        self.assertNotEqual(Line(2, 0, 4), Line(2, 1, 4))
        self.assertTrue(Line(0, 0, 1))

    def test_errors(self):
        for arguments, value in (
            (("a", None, 0), "a"), ((1, None, 0), None), ((1, True, 0), True),
            ((1, 1, True), True), ((1, 1, 2.0), 2.0), ((1, 1, 0), 0), ((1, 1, -3), -3),
        ):
            with self.assertRaises(BadNumber) as caught:
                Line(*arguments)
            self.assertIs(type(caught.exception.value), type(value))
            self.assertEqual(caught.exception.value, value)


if __name__ == "__main__":
    unittest.main()
