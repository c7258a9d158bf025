"""Rows of numbers as those of a rounded line ([22])."""

import unittest
from fractions import Fraction

from pointorstrip.errors import BadNumber, TooLarge
from pointorstrip.ratios import simplest_between
from pointorstrip.rounded import Line
from pointorstrip.stairs import Crooked, Stairs, stairs
from trying import check_equality, generator


def numbers_of(line, many):
    return [line.at(x) for x in range(many)]


def least_line(row):
    """(m, a, b) of the line of the least numbers, all being tried; None if there is none."""
    step = row[1] - row[0]
    for m in range(1, 2 * len(row)):
        found = []
        for a in range(m * (step - 1), m * (step + 1) + 1):
            low = max(m * number - a * x for x, number in enumerate(row))
            high = min(m * number + m - 1 - a * x for x, number in enumerate(row))
            if low <= high:
                found.append((m, a, low))
        if found:
            return found[0] if len(found) == 1 else found
    return None


def bounds(row, low, high):
    """The fractions that two pairs of places tell."""
    first, last = low
    start, end = high
    return (Fraction(row[last] - row[first] - 1, last - first),
            Fraction(row[end] - row[start] + 1, end - start))


class StairsTest(unittest.TestCase):
    def check_pair(self, row, pair):
        self.assertIs(type(pair), tuple)
        self.assertEqual(len(pair), 2)
        self.assertTrue(0 <= pair[0] < pair[1] < len(row))

    def check(self, row):
        """stairs(row), held against what the document says of it; (m, a, b) or None."""
        found = stairs(row)
        self.assertIs(found.shows(row), True)
        self.assertIs(found.shows(tuple(row)), True)
        self.assertEqual(stairs(tuple(row)), found)
        self.check_pair(row, found.low)
        self.check_pair(row, found.high)
        low, high = bounds(row, found.low, found.high)
        if isinstance(found, Crooked):
            self.assertIs(bool(found), False)
            self.assertGreaterEqual(low, high)
            return None
        self.assertIsInstance(found, Stairs)
        self.assertIs(bool(found), True)
        line = found.line
        self.assertEqual(numbers_of(line, len(row)), list(row))
        self.assertTrue(low < Fraction(line.a, line.m) < high)
        for m in range(1, line.m):
            self.assertGreaterEqual(Fraction(low * m // 1 + 1, m), high)
        self.assertGreaterEqual(low, Fraction(line.a - 1, line.m))
        return line.m, line.a, line.b

    def test_by_hand(self):
        self.assertEqual(self.check([0, 31, 61, 92, 122]), (2, 61, 1))
        # The days ahead of each month, from March on.
        days = [0, 31, 61, 92, 122, 153, 184, 214, 245, 275, 306, 337]
        self.assertEqual(self.check(days), (5, 153, 2))
        self.assertIsNone(self.check([0, 31, 59, 90, 120, 151, 181, 212, 243, 273, 304, 334]))
        self.assertEqual(self.check([7, 7]), (1, 0, 7))
        self.assertEqual(self.check([7, 8]), (1, 1, 7))
        self.assertEqual(self.check([0, 10 ** 500]), (1, 10 ** 500, 0))
        self.assertEqual(self.check([5, 3]), (1, -2, 5))
        self.assertEqual(self.check([-1, -2, -2]), (2, -1, -2))
        self.assertIsNone(self.check([0, 1, 0]))
        self.assertIsNone(self.check([0, 0, 2]))

    def test_ends(self):
        self.assertEqual(self.check([4] * 200), (1, 0, 4))
        self.assertEqual(self.check(list(range(200))), (1, 1, 0))
        self.assertEqual(self.check(list(range(0, -600, -3))), (1, -3, 0))
        self.assertEqual(self.check([0] * 199 + [1]), (199, 1, 0))
        self.assertEqual(self.check([0] + [1] * 199), (199, 1, 198))
        self.assertEqual(self.check([0] + [-1] * 199), (199, -1, 0))
        self.assertEqual(self.check([0] * 100 + [1] * 100), (100, 1, 0))
        self.assertIsNone(self.check([0] * 66 + [1] * 66 + [2] * 68))
        self.assertIsNone(self.check([0] * 198 + [1, 2]))
        line = Line(355, 20, 113)
        self.assertEqual(self.check(numbers_of(line, 200))[:2], (113, 355))

    def test_against_trying_all(self):
        chance = generator(221)
        told = [0, 0]
        for _ in range(700):
            line = Line(chance.randint(-30, 30), chance.randint(-40, 40), chance.randint(1, 12))
            row = numbers_of(line, chance.randint(2, 14))
            if chance.random() < 0.6:
                row[chance.randrange(len(row))] += chance.choice([-1, 1])
            found = self.check(row)
            self.assertEqual(found, least_line(row), row)
            told[found is None] += 1
        self.assertGreater(min(told), 100)

    def test_all_short_rows(self):
        for one in range(-3, 4):
            for two in range(-3, 4):
                for three in range(-3, 4):
                    row = [0, one, two, three]
                    self.assertEqual(self.check(row), least_line(row), row)

    def test_long_numbers(self):
        chance = generator(222)
        for _ in range(20):
            size = 10 ** chance.choice([10, 40, 300])
            line = Line(chance.randint(-size, size), chance.randint(-size, size),
                        chance.randint(1, size))
            row = numbers_of(line, chance.choice([2, 3, 50, 200]))
            found = stairs(row)
            self.assertIs(found.shows(row), True)
            self.assertEqual(numbers_of(found.line, len(row)), row)
            row[-1] += size
            if len(row) > 2:
                self.assertIsInstance(stairs(row), Crooked)
                self.assertIs(stairs(row).shows(row), True)

    def test_shows(self):
        row = [0, 31, 61, 92, 122, 153, 184]
        found = stairs(row)
        line, low, high = found.line, found.low, found.high
        self.assertEqual((line.a, line.b, line.m), (153, 2, 5))
        self.assertIs(Stairs(line, low, high).shows(row), True)
        for other in (
            Line(153, 3, 5), Line(153, 1, 5), Line(306, 4, 10), Line(306, 5, 10), Line(154, 2, 5),
            Line(214, 3, 7), Line(153, 2, 6), None, 7,
        ):
            self.assertIs(Stairs(other, low, high).shows(row), False, other)
        # Lines with the same numbers, and a greater m.
        others = 0
        for m in range(6, 30):
            for a in range(30 * m, 31 * m):
                other = Line(a, max(m * number - a * x for x, number in enumerate(row)), m)
                if numbers_of(other, 7) == row:
                    others += 1
                    self.assertIs(Stairs(other, low, high).shows(row), False)
        self.assertGreater(others, 5)
        for pair in ((0, 0), (1, 0), (-1, 3), (0, 7), (3, 7), (0,), (0, 1, 2), None, [0, 6], (0, True)):
            self.assertIs(Stairs(line, pair, high).shows(row), False, pair)
            self.assertIs(Stairs(line, low, pair).shows(row), False, pair)
        # Pairs that leave room for lesser lines.
        self.assertIs(Stairs(line, (0, 1), high).shows(row), False)
        self.assertIs(Stairs(line, low, (0, 1)).shows(row), False)
        self.assertIs(Stairs(line, (0, 1), (0, 1)).shows(row), False)
        # Not for other rows.
        for at in range(7):
            for step in (1, -1):
                other = list(row)
                other[at] += step
                self.assertIs(Stairs(line, low, high).shows(other), False)
        self.assertIs(Stairs(line, low, high).shows(row + [214]), True)
        self.assertIs(Stairs(line, low, high).shows(row + [213]), False)
        self.assertIs(Stairs(line, low, high).shows(row[:6]), low[1] < 6 and high[1] < 6)

    def test_crooked_shows(self):
        row = [0, 0, 2, 2]
        found = stairs(row)
        self.assertEqual((found.low, found.high), ((1, 2), (0, 1)))
        self.assertIs(Crooked((1, 2), (0, 1)).shows(row), True)
        self.assertIs(Crooked((0, 1), (1, 2)).shows(row), False)
        self.assertIs(Crooked((1, 2), (1, 2)).shows(row), False)
        self.assertIs(Crooked((1, 2), (2, 3)).shows(row), True)
        self.assertIs(Crooked((1, 2), (0, 3)).shows(row), True)
        self.assertIs(Crooked((0, 3), (0, 1)).shows(row), False)
        for pair in ((1, 1), (2, 1), (-1, 2), (1, 4), (-3, -2), (), None, (1, 2, 3), [1, 2]):
            self.assertIs(Crooked(pair, (0, 1)).shows(row), False, pair)
            self.assertIs(Crooked((1, 2), pair).shows(row), False, pair)
        self.assertIs(Crooked((1, 2), (0, 1)).shows([0, 0, 1, 2]), False)
        self.assertIs(Crooked((1, 2), (0, 1)).shows([0, 1, 3, 9]), False)
        self.assertIs(Crooked((1, 2), (0, 1)).shows([0] * 500 + [2]), False)
        self.assertIs(Crooked((499, 500), (0, 1)).shows([0] * 500 + [2]), True)
        self.assertIs(Stairs(Line(1, 0, 1), (1, 2), (0, 1)).shows(row), False)

    def test_equality(self):
        check_equality(self, Stairs, [Line(1, 0, 2), (0, 1), (1, 2)],
                       [Line(1, 1, 2), (0, 2), (0, 1)])
        check_equality(self, Crooked, [(0, 1), (1, 2)], [(0, 2), (0, 1)])

    def test_errors(self):
        for row in (None, 5, "12", {1: 2}, {1, 2}, range(5), True):
            with self.assertRaises(BadNumber) as caught:
                stairs(row)
            self.assertIs(caught.exception.value, row)
        for row, value in (
            ([1, None, "x"], None), ([True, 2], True), ([1.0], 1.0), ([1, 2, (3,)], (3,)),
            ([0] * 300 + ["end"], "end"), (["one"], "one"),
        ):
            with self.assertRaises(BadNumber) as caught:
                stairs(row)
            self.assertEqual(caught.exception.value, value)
        for row, many in (([], 0), ((), 0), ([5], 1), ([0] * 201, 201), ((3,) * 1000, 1000)):
            with self.assertRaises(TooLarge) as caught:
                stairs(row)
            self.assertEqual(caught.exception.number, many)


class SimplestTest(unittest.TestCase):
    def test_against_trying_all(self):
        numbers = [(p, q) for q in range(1, 7) for p in range(-7, 8)]
        for low in numbers:
            for high in numbers:
                if Fraction(*low) < Fraction(*high):
                    q = 1
                    while Fraction(low[0] * q // low[1] + 1, q) >= Fraction(*high):
                        q += 1
                    told = (low[0] * q // low[1] + 1, q)
                    self.assertEqual(simplest_between(low, high), told, (low, high))


if __name__ == "__main__":
    unittest.main()
