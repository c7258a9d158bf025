"""The greatest value that a place and a rounded line's number there have ([19])."""

import unittest

from pointorstrip.extremes import greatest
from pointorstrip.leasts import least
from pointorstrip.regions import Region
from pointorstrip.rounded import Line
from trying import generator


class GreatestTest(unittest.TestCase):
    def check(self, one, other, line, top):
        found = greatest(one, other, line, top)
        self.assertIs(type(found), tuple)
        value, x = found
        self.assertTrue(0 <= x <= top)
        self.assertEqual(one * x + other * line.at(x), value)
        return value

    def test_by_hand(self):
        self.assertEqual(greatest(0, 1, Line(1, 0, 2), 0), (0, 0))
        self.assertEqual(greatest(-1, 3, Line(2, 1, 5), 4), (1, 2))
        self.assertEqual(greatest(1, -3, Line(2, 1, 5), 3), (1, 1))
        self.assertEqual(greatest(5, 0, Line(2, 1, 5), 4), (20, 4))
        self.assertEqual(greatest(-5, 0, Line(2, 1, 5), 4), (0, 0))
        self.assertEqual(greatest(0, 0, Line(2, 1, 5), 4)[0], 0)
        self.assertEqual(self.check(7, -5, Line(-3, -1, 2), 0), 5)

    def test_against_going_through(self):
        chance = generator(91)
        for _ in range(4000):
            line = Line(chance.randint(-40, 40), chance.randint(-40, 40), chance.randint(1, 25))
            one, other = chance.randint(-30, 30), chance.randint(-30, 30)
            top = chance.choice([0, 1, chance.randint(0, 60)])
            told = max([one * x + other * line.at(x) for x in range(top + 1)])
            self.assertEqual(self.check(one, other, line, top), told, (one, other, vars(line), top))

    def test_near_slopes(self):
        # What going on costs and what the line pays are nearly the same.
        chance = generator(92)
        for _ in range(1500):
            a, m = chance.randint(1, 60), chance.randint(1, 60)
            line = Line(a, chance.randint(-60, 60), m)
            sign = chance.choice([1, -1])
            one = sign * (a + chance.randint(-1, 1))
            other = -sign * (m + chance.randint(-1, 1))
            top = chance.randint(0, 130)
            told = max([one * x + other * line.at(x) for x in range(top + 1)])
            self.assertEqual(self.check(one, other, line, top), told, (one, other, vars(line), top))

    def test_long_numbers_against_regions(self):
        chance = generator(93)
        most = 10 ** 18
        for _ in range(150):
            a, b, m = chance.randint(1, most), chance.randint(-most, most), chance.randint(1, most)
            top = chance.randint(0, most)
            line = Line(a, b, m)
            sign = chance.choice([1, -1])
            one = sign * (a + chance.randint(-9, 9))
            other = -sign * (m + chance.randint(-9, 9))
            value = self.check(one, other, line, top)
            # The points on the line's numbers or behind them: where each unit pays they are
            # under the line, where it costs above it.
            rows = [(-1, 0, 0), (1, 0, top)]
            if other > 0:
                rows.append((-a, m, b))
            else:
                rows.append((a, -m, m - 1 - b))
            if other:
                self.assertEqual(least(Region(rows), -one, -other).value, -value)

    def test_hundreds_of_figures(self):
        chance = generator(94)
        most = 10 ** 400
        for _ in range(40):
            a, b, m = chance.randint(1, most), chance.randint(-most, most), chance.randint(1, most)
            one, other = a + chance.randint(-9, 9), -m + chance.randint(-9, 9)
            line = Line(a, b, m)
            value = self.check(one, other, line, most)
            for x in [0, most] + [chance.randint(0, most) for _ in range(20)]:
                self.assertLessEqual(one * x + other * line.at(x), value)
        # The value is at most that of rests from 0 to m - 1, and some rest comes close.
        a, m = 10 ** 300 + 7, 10 ** 299 + 3
        self.assertEqual(self.check(a, -m, Line(a, 0, m), m), m - 1)
        self.assertEqual(self.check(-a, m, Line(a, 0, m), m), 0)


if __name__ == "__main__":
    unittest.main()
