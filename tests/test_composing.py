"""Lines behind lines ([64])."""

import unittest

from pointorstrip.composing import Broken, Composed, compose, nested
from pointorstrip.errors import TooLarge
from pointorstrip.rounded import Line
from trying import check_equality, generator

FAR = (10 ** 30, -10 ** 30 - 7, 3 * 10 ** 40 + 1)


def some_line(chance, most):
    m = chance.choice([1, 2, chance.randint(1, most)])
    a = chance.choice([0, 1, 1, -1, m, chance.randint(-2 * m, 2 * m), chance.randint(-most, most)])
    return Line(a, chance.choice([0, chance.randint(-3 * m, 3 * m)]), m)


def at(one, other, x):
    return (other.a * ((one.a * x + one.b) // one.m) + other.b) // other.m


def offsets(one, other):
    """The least offset that a place asks, the greatest that one allows, by trying a period."""
    period = one.m * other.m
    asked = [at(one, other, x) * period - one.a * other.a * x for x in range(period)]
    return max(asked), min(asked) + period - 1


class ComposeTest(unittest.TestCase):
    def check(self, one, other):
        """compose(..), held against what the document says of it."""
        found = compose(one, other)
        self.assertIs(found.shows(one, other), True)
        least, most = offsets(one, other)
        period = one.m * other.m
        if isinstance(found, Composed):
            self.assertIs(bool(found), True)
            self.assertEqual(found.line, Line(one.a * other.a, least, period))
            for x in list(range(-period - 3, 2 * period)) + list(FAR):
                self.assertEqual(found.line.at(x), at(one, other, x))
            return found.line
        self.assertIsInstance(found, Broken)
        self.assertIs(bool(found), False)
        self.assertGreater(least, most)
        x, y = found.x, found.y
        a, m = one.a * other.a, period
        self.assertGreater(at(one, other, x) * m - a * x, at(one, other, y) * m - a * y + m - 1)
        return None

    def test_against_trying_a_period(self):
        chance = generator(641)
        seen = {}
        for _ in range(600):
            one, other = some_line(chance, 12), some_line(chance, 12)
            line = self.check(one, other)
            slope = min(max(one.a * other.a, -1), 1)
            seen[line is None, slope] = seen.get((line is None, slope), 0) + 1
        self.assertEqual(len(seen), 5)
        self.assertGreater(min(seen.values()), 10)
        # Without a slope the numbers are all alike, so there is a line.
        self.assertNotIn((True, 0), seen)

    def test_divisions_one_behind_another(self):
        for b in (1, 2, 7, 10):
            for c in (1, 3, 5, 10):
                self.assertEqual(self.check(Line(1, 0, b), Line(1, 0, c)), Line(1, 0, b * c))
                for more in (-5, 1, 4):
                    line = self.check(Line(1, more, b), Line(1, 0, c))
                    self.assertEqual([line.at(x) for x in range(-99, 99)], [(x + more) // (b * c) for x in range(-99, 99)])
        self.assertEqual(self.check(Line(1, 0, 50), Line(1, 0, 60)), Line(1, 0, 3000))

    def test_by_hand(self):
        # A shift to the left and back is nothing; back and to the left it clears bits.
        self.assertEqual(self.check(Line(8, 0, 1), Line(1, 0, 8)), Line(8, 0, 8))
        self.assertIsNone(self.check(Line(1, 0, 8), Line(8, 0, 1)))
        self.assertEqual(self.check(Line(5, 3, 1), Line(7, 2, 1)), Line(35, 23, 1))
        self.assertEqual(self.check(Line(-1, 0, 3), Line(-1, 0, 1)), Line(1, 2, 3))
        self.assertEqual(self.check(Line(-1, 0, 3), Line(1, 0, 5)), Line(-1, 0, 15))
        self.assertEqual(self.check(Line(0, 7, 3), Line(5, 1, 4)), Line(0, 24, 12))
        self.assertEqual(self.check(Line(5, 7, 3), Line(0, 9, 4)), Line(0, 24, 12))
        # The least b: many lines have these numbers.
        self.assertEqual(self.check(Line(2, 1, 4), Line(1, 0, 1)), Line(2, 0, 4))
        self.assertEqual(self.check(Line(1, 0, 1), Line(6, 5, 9)), Line(6, 3, 9))
        self.assertIsNone(self.check(Line(2, 0, 3), Line(3, 0, 2)))

    def test_shows(self):
        one, other = Line(1, 2, 7), Line(1, -3, 5)
        line = compose(one, other).line
        self.assertIs(Composed(Line(line.a, line.b, line.m)).shows(one, other), True)
        for bent in (Line(line.a, line.b - 1, line.m), Line(line.a, line.b + 1, line.m), Line(2, line.b, line.m),
                     Line(line.a, line.b, line.m + 1), Line(2 * line.a, 2 * line.b, 2 * line.m),
                     Line(line.a, line.b + line.m, line.m), None, 5, (line.a, line.b, line.m)):
            self.assertIs(Composed(bent).shows(one, other), False)
        for pair in ((other, one), (one, Line(1, -4, 5)), (Line(1, 3, 7), other), (one, Line(2, -3, 5))):
            self.assertIs(Composed(line).shows(*pair), False)
        for x in range(-20, 20):
            self.assertIs(Broken(x, 3).shows(one, other), False)
            self.assertIs(Broken(3, x).shows(one, other), False)
        # With an offset between, another line has the numbers as well, but not with the least b.
        wide, apart = Line(4, 0, 6), Line(1, 0, 1)
        line = compose(wide, apart).line
        self.assertEqual((line, wide.at(5)), (Line(4, 0, 6), Line(4, 1, 6).at(5)))
        self.assertIs(Composed(Line(4, 1, 6)).shows(wide, apart), False)

    def test_shows_of_broken(self):
        one, other = Line(1, 0, 8), Line(8, 0, 1)
        found = compose(one, other)
        for x in range(-9, 20):
            for y in range(-9, 20):
                told = (x // 8 * 8) * 8 - 8 * x > (y // 8 * 8) * 8 - 8 * y + 7
                self.assertIs(Broken(x, y).shows(one, other), told)
        self.assertIs(Broken(found.x + 8 * 10 ** 40, found.y - 8 * 10 ** 30).shows(one, other), True)
        self.assertIs(Broken(found.y, found.x).shows(one, other), False)
        self.assertIs(found.shows(other, one), False)
        self.assertIs(Composed(None).shows(one, other), False)
        # As far apart as can be without breaking it.
        for x in range(-9, 20):
            self.assertIs(Broken(8 * x, 8 * x + 7).shows(Line(1, 0, 8), Line(1, 0, 1)), False)
        for line in (Line(8, b, 8) for b in range(-10, 10)):
            self.assertIs(Composed(line).shows(one, other), False)

    def test_shows_for_long_numbers(self):
        m, k = 10 ** 40 + 7, 10 ** 50 + 3
        self.assertIs(Composed(Line(1, 0, m * k)).shows(Line(1, 0, m), Line(1, 0, k)), True)
        self.assertIs(Composed(Line(1, 1, m * k)).shows(Line(1, 0, m), Line(1, 0, k)), False)
        self.assertIs(Composed(Line(1, -1, m * k)).shows(Line(1, 0, m), Line(1, 0, k)), False)
        self.assertIs(Composed(Line(k, 0, k)).shows(Line(k, 0, 1), Line(1, 0, k)), True)
        self.assertIs(Broken(m - 1, 0).shows(Line(1, 0, m), Line(m, 0, 1)), False)
        self.assertIs(Broken(0, m - 1).shows(Line(1, 0, m), Line(m, 0, 1)), True)
        self.assertIs(Composed(Line(m, 0, m)).shows(Line(1, 0, m), Line(m, 0, 1)), False)

    def test_shows_beyond_the_bound(self):
        chance = generator(642)
        seen = {}
        for _ in range(40):
            one, other = some_line(chance, 90), some_line(chance, 90)
            least, most = offsets(one, other)
            line = Line(one.a * other.a, least, one.m * other.m)
            self.assertIs(Composed(line).shows(one, other), least <= most)
            self.assertIs(Composed(Line(line.a, least + 1, line.m)).shows(one, other), False)
            seen[least <= most] = True
        self.assertEqual(len(seen), 2)

    def test_too_large(self):
        for m, k in ((3001, 1), (1, 3001), (55, 55), (10 ** 30, 10 ** 30)):
            with self.assertRaises(TooLarge) as caught:
                compose(Line(1, 0, m), Line(1, 0, k))
            self.assertEqual(caught.exception.number, m * k)
        self.check(Line(7, -3, 60), Line(11, 5, 50))
        self.check(Line(-7, -3, 1), Line(11, 5, 3000))
        far = 10 ** 40
        self.check(Line(7 * far + 1, far, 40), Line(-far - 3, 5, 50))

    def test_equality(self):
        check_equality(self, Composed, [Line(1, 2, 3)], [Line(1, 2, 4)])
        check_equality(self, Broken, [1, 2], [2, 1])


class NestedTest(unittest.TestCase):
    def test_by_hand(self):
        self.assertEqual(nested([]), Line(1, 0, 1))
        self.assertEqual(nested(()), Line(1, 0, 1))
        self.assertEqual(nested([Line(6, 5, 9)]), Line(6, 3, 9))
        self.assertEqual(nested([Line(1, 0, 2), Line(1, 0, 3), Line(1, 0, 5)]), Line(1, 0, 30))
        self.assertEqual(nested((Line(1, 7, 10), Line(1, 3, 10))), Line(1, 37, 100))
        self.assertIsNone(nested([Line(1, 0, 8), Line(8, 0, 1)]))
        self.assertIsNone(nested([Line(1, 0, 2), Line(1, 0, 8), Line(8, 0, 1), Line(1, 0, 1)]))
        # The first one is innermost.
        self.assertEqual(nested([Line(8, 0, 1), Line(1, 0, 8)]), Line(8, 0, 8))

    def test_against_the_numbers(self):
        chance = generator(643)
        seen = {}
        for _ in range(300):
            lines = [some_line(chance, 5) for _ in range(chance.randint(1, 4))]
            found = nested(lines)
            told = Line(1, 0, 1)
            for line in lines:
                both = compose(told, line)
                told = both.line if both else None
                if told is None:
                    break
            self.assertEqual(found, told)
            seen[found is None] = True
            if found is not None:
                for x in list(range(-40, 40)) + list(FAR):
                    number = x
                    for line in lines:
                        number = line.at(number)
                    self.assertEqual(found.at(x), number)
        self.assertEqual(len(seen), 2)

    def test_too_large(self):
        with self.assertRaises(TooLarge) as caught:
            nested([Line(1, 0, 3001)])
        self.assertEqual(caught.exception.number, 3001)
        with self.assertRaises(TooLarge) as caught:
            nested([Line(1, 0, 50), Line(1, 0, 60), Line(1, 0, 1), Line(1, 0, 2)])
        self.assertEqual(caught.exception.number, 6000)
        # One that breaks it comes first.
        self.assertIsNone(nested([Line(1, 0, 8), Line(8, 0, 1), Line(1, 0, 10 ** 9)]))
        self.assertEqual(nested([Line(1, 0, 50), Line(1, 0, 60)]), Line(1, 0, 3000))


if __name__ == "__main__":
    unittest.main()
