"""The rests of n i + b by m ([43], [44])."""

import unittest
from math import gcd

from pointorstrip.errors import BadNumber
from pointorstrip.leasts import First
from pointorstrip.papers import Empty, Point, Thin
from pointorstrip.regions import Region
from pointorstrip.rests import (
    LeastRest, Rests, count_rests, first_rest, gaps, greatest_rest, least_rest,
)
from trying import check_equality, generator, refutes


def some_rests(chance, most=30):
    m = chance.choice([1, 2, chance.randint(1, most), chance.randint(1, most)])
    n = chance.choice([0, chance.randint(-3 * m, 3 * m), chance.randint(-most, most), m, 2 * m])
    many = chance.choice([1, chance.randint(1, most), chance.randint(1, 2 * most)])
    return Rests(n, chance.randint(-2 * most, 2 * most), m, many)


def values_of(rests):
    return [(rests.n * i + rests.b) % rests.m for i in range(rests.many)]


def ways_between(values, m):
    """How many there are of each way from an unlike value to the next on a ring of m, by going round."""
    ring = sorted(set(values))
    ways = [(ring[(at + 1) % len(ring)] - value) % m or m for at, value in enumerate(ring)]
    return {way: ways.count(way) for way in sorted(set(ways))}


class RestsTest(unittest.TestCase):
    def test_at(self):
        rests = Rests(5, 3, 7, 4)
        self.assertEqual((rests.n, rests.b, rests.m, rests.many), (5, 3, 7, 4))
        self.assertEqual([rests.at(i) for i in (-2, -1, 0, 1, 2, 3, 4, 10 ** 40)],
                         [0, 5, 3, 1, 6, 4, 2, (5 * 10 ** 40 + 3) % 7])
        self.assertEqual([Rests(-5, -1, 7, 1).at(i) for i in range(4)], [6, 1, 3, 5])
        self.assertEqual([Rests(9, 4, 1, 2).at(i) for i in (-5, 0, 3)], [0, 0, 0])

    def test_turned(self):
        chance = generator(431)
        for _ in range(100):
            rests = some_rests(chance)
            turned = rests.turned()
            self.assertEqual(turned, Rests(-rests.n, -rests.b - 1, rests.m, rests.many))
            self.assertEqual([value + other for value, other in zip(values_of(rests), values_of(turned))],
                             [rests.m - 1] * rests.many)
            self.assertEqual(turned.turned(), rests)

    def test_errors(self):
        for n, b, m, many, value in (
            (None, "b", 0, 0, None), (True, 1, 0, 0, True), (1, "b", 0, 0, "b"), (1, 2.0, 3, 4, 2.0),
            (1, 2, None, 0, None), (1, 2, False, 0, False), (1, 2, 0, None, None), (1, 2, -1, True, True),
            (1, 2, 0, 0, 0), (1, 2, 0, 5, 0), (1, 2, -7, 5, -7), (1, 2, 3, 0, 0), (1, 2, 3, -4, -4),
        ):
            with self.assertRaises(BadNumber) as caught:
                Rests(n, b, m, many)
            self.assertEqual(caught.exception.value, value)
            self.assertIs(type(caught.exception.value), type(value))

    def test_equality(self):
        check_equality(self, Rests, [1, 2, 3, 4], [2, 3, 4, 5])
        check_equality(self, LeastRest, [1, 2, Thin(1, 0)], [2, 1, Thin(0, 1)])


class LeastRestTest(unittest.TestCase):
    def check(self, rests):
        """least_rest(rests), held against what the document says of it."""
        found = least_rest(rests)
        self.assertIsInstance(found, LeastRest)
        self.assertTrue(found)
        self.assertTrue(0 <= found.i < rests.many)
        self.assertEqual(rests.at(found.i), found.value)
        n, b, m = rests.n, rests.b, rests.m
        self.assertTrue(refutes(found.against, [
            (-1, 0, 0), (1, 0, rests.many - 1), (-n, m, b), (n, -m, found.value - 1 - b)]))
        self.assertIs(found.shows(rests), True)
        greatest, told = greatest_rest(rests)
        self.assertEqual(told, least_rest(rests.turned()))
        self.assertEqual(greatest, m - 1 - told.value)
        self.assertEqual(rests.at(told.i), greatest)
        self.assertIs(type(greatest_rest(rests)), tuple)
        return found.value, greatest

    def test_against_going_through(self):
        chance = generator(432)
        for _ in range(600):
            rests = some_rests(chance)
            values = values_of(rests)
            self.assertEqual(self.check(rests), (min(values), max(values)))

    def test_edges(self):
        self.assertEqual(self.check(Rests(0, 5, 7, 1)), (5, 5))
        self.assertEqual(self.check(Rests(0, -5, 7, 10 ** 50)), (2, 2))
        self.assertEqual(self.check(Rests(12, 5, 1, 10 ** 50)), (0, 0))
        self.assertEqual(self.check(Rests(12, 5, 7, 1)), (5, 5))
        self.assertEqual(self.check(Rests(-3, 0, 7, 2)), (0, 4))
        self.assertEqual(self.check(Rests(703, 1, 7, 7)), (0, 6))
        self.assertEqual(self.check(Rests(6, 4, 9, 100)), (1, 7))

    def test_great_ones(self):
        chance = generator(433)
        for size in (10 ** 18, 10 ** 60, 10 ** 400):
            for _ in range(10):
                numbers = [chance.randint(-size, size) for _ in range(2)]
                self.check(Rests(*numbers, chance.randint(1, size), chance.randint(1, size)))
        # The rests of a number without a common divisor are all there.
        self.assertEqual(self.check(Rests(10 ** 50 + 1, 77, 10 ** 50, 10 ** 50)), (0, 10 ** 50 - 1))
        self.assertEqual(self.check(Rests(6, 1, 10 ** 50, 10 ** 50)), (1, 10 ** 50 - 1))
        self.assertEqual(self.check(Rests(1, 10 ** 50 - 7, 10 ** 50, 7)), (10 ** 50 - 7, 10 ** 50 - 1))

    def test_shows(self):
        for rests in (Rests(5, 3, 17, 6), Rests(-8, 2, 21, 9), Rests(10 ** 30, 5, 10 ** 31 + 7, 4)):
            found = least_rest(rests)
            value, i, against = found.value, found.i, found.against
            self.assertGreater(value, 0)
            self.assertIs(LeastRest(value, i, against).shows(rests), True)
            for other in (0, value - 1, value + 1, -1, value - rests.m, rests.m):
                self.assertIs(LeastRest(other, i, against).shows(rests), False)
            for other in (i - 1, i + 1, -1, i + rests.m, i - rests.m, rests.many):
                self.assertIs(LeastRest(value, other, against).shows(rests), False)
            for other in (None, 5, Point(0, 0), Empty([0] * 4), Empty([1, 1, 0]), Thin(0, 0), Thin(2, 0)):
                self.assertIs(LeastRest(value, i, other).shows(rests), False)
            # Any other rest is not the least, whatever is against it.
            for other in range(rests.many):
                if other != i:
                    for paper in (against, Thin(1, 0), Thin(0, 1)):
                        self.assertIs(LeastRest(rests.at(other), other, paper).shows(rests), False)
            self.assertIs(found.shows(Rests(rests.n, rests.b + 1, rests.m, rests.many)), False)
            self.assertIs(found.shows(Rests(rests.n, rests.b, rests.m, i + 1)), True)
            if i:
                self.assertIs(found.shows(Rests(rests.n, rests.b, rests.m, i)), False)
        self.assertIs(LeastRest(0, 0, Empty([0, 0, 1, 1])).shows(Rests(3, 0, 5, 2)), True)
        self.assertIs(LeastRest(0, 0, Thin(1, 0)).shows(Rests(3, 0, 5, 2)), False)
        for i in (-5, -1, 0, 1, 2, 7):
            self.assertIs(LeastRest(0, i, Empty([0, 0, 1, 1])).shows(Rests(0, 0, 5, 2)), i in (0, 1))
        # One that comes again later is as good.
        self.assertIs(LeastRest(0, 5, Empty([0, 0, 1, 1])).shows(Rests(3, 0, 5, 6)), True)
        self.assertIs(LeastRest(0, 5, Empty([0, 0, 1, 1])).shows(Rests(3, 0, 5, 5)), False)


class CountTest(unittest.TestCase):
    def test_against_going_through(self):
        chance = generator(441)
        for _ in range(800):
            rests = some_rests(chance)
            low = chance.randrange(rests.m)
            high = chance.choice([low, rests.m - 1, chance.randint(low, rests.m - 1)])
            told = [low <= value <= high for value in values_of(rests)]
            self.assertEqual(count_rests(rests, low, high), sum(told))

    def test_edges(self):
        rests = Rests(5, 3, 17, 40)
        self.assertEqual(count_rests(rests, 0, 16), 40)
        self.assertEqual(count_rests(rests, 3, 3), 3)
        self.assertEqual(sum(count_rests(rests, value, value) for value in range(17)), 40)
        self.assertEqual(count_rests(Rests(0, 3, 17, 40), 3, 3), 40)
        self.assertEqual(count_rests(Rests(0, 3, 17, 40), 4, 16), 0)
        self.assertEqual(count_rests(Rests(9, 3, 1, 40), 0, 0), 40)
        most = 10 ** 50
        self.assertEqual(count_rests(Rests(7, 5, most, most), 0, most // 2 - 1), most // 2)
        self.assertEqual(count_rests(Rests(1, 0, 10, 7 * most), 3, 5), 21 * most // 10)

    def check_errors(self, function):
        rests = Rests(5, 3, 17, 40)
        for low, high, value in (
            (None, "high", None), (True, 5, True), (-1, 99, -1), (17, None, 17), (2.0, 3, 2.0),
            (3, None, None), (3, 17, 17), (3, -1, -1), (3, False, False), (4, 3, 3), (16, 0, 0),
        ):
            with self.assertRaises(BadNumber) as caught:
                function(rests, low, high)
            self.assertEqual(caught.exception.value, value)
            self.assertIs(type(caught.exception.value), type(value))
        for low, high in ((0, 0), (16, 16), (0, 16)):
            function(rests, low, high)

    def test_errors(self):
        self.check_errors(count_rests)
        self.check_errors(first_rest)


class FirstRestTest(unittest.TestCase):
    def check(self, rests, low, high):
        """first_rest(..), held against what the document says of it; the i, None if there is none."""
        rows = [(-1, 0, 0), (-rests.n, rests.m, rests.b - low), (rests.n, -rests.m, high - rests.b)]
        found = first_rest(rests, low, high)
        if not isinstance(found, First):
            self.assertTrue(refutes(found, rows))
            return None
        self.assertIs(found.shows(Region(rows)), True)
        self.assertTrue(low <= rests.at(found.x) <= high)
        self.assertEqual(rests.n * found.x + rests.b - rests.m * found.y, rests.at(found.x))
        return found.x

    def test_against_going_through(self):
        chance = generator(442)
        seen = {}
        for _ in range(800):
            rests = some_rests(chance)
            low = chance.randrange(rests.m)
            high = chance.choice([low, rests.m - 1, chance.randint(low, rests.m - 1)])
            there = [i for i in range(rests.m) if low <= rests.at(i) <= high]
            i = self.check(rests, low, high)
            self.assertEqual(i, there[0] if there else None)
            seen["none" if i is None else "behind" if i >= rests.many else "within"] = True
        self.assertEqual(len(seen), 3)

    def test_edges(self):
        # Of all i, not of those below many alone.
        self.assertEqual(self.check(Rests(1, 0, 100, 3), 50, 60), 50)
        self.assertEqual(self.check(Rests(-1, 0, 100, 1), 1, 1), 99)
        # All rests of 6 i + 1 by 9 are 1, 4, 7.
        self.assertIsNone(self.check(Rests(6, 1, 9, 5), 2, 3))
        self.assertEqual(self.check(Rests(6, 1, 9, 5), 2, 4), 2)
        self.assertIsNone(self.check(Rests(0, 5, 9, 5), 6, 8))
        self.assertEqual(self.check(Rests(0, 5, 9, 5), 5, 5), 0)
        self.assertEqual(self.check(Rests(4, 5, 9, 5), 0, 8), 0)
        self.assertEqual(self.check(Rests(4, 5, 1, 5), 0, 0), 0)

    def test_great_ones(self):
        most = 10 ** 60
        self.assertEqual(self.check(Rests(7, 0, most, 1), most - 7, most - 7),
                         (most - 7) * pow(7, -1, most) % most)
        self.assertIsNone(self.check(Rests(6, 0, most, 1), 1, 1))
        chance = generator(443)
        for _ in range(20):
            rests = Rests(chance.randint(-most, most), chance.randint(-most, most), most + 3, 5)
            low = chance.randrange(most)
            self.check(rests, low, low + chance.choice([0, 1, 10 ** 30]))


class GapsTest(unittest.TestCase):
    def check(self, rests):
        found = gaps(rests)
        self.assertIs(type(found), dict)
        self.assertIsNot(gaps(rests), found)
        self.assertEqual(list(found), sorted(found))
        self.assertLessEqual(len(found), 3)
        self.assertGreater(min(found), 0)
        self.assertGreater(min(found.values()), 0)
        self.assertEqual(sum(way * found[way] for way in found), rests.m)
        if len(found) == 3:
            low, middle, high = found
            self.assertEqual(low + middle, high)
        return found

    def test_against_the_ring(self):
        chance = generator(444)
        seen = {}
        for _ in range(2000):
            rests = some_rests(chance)
            found = self.check(rests)
            self.assertEqual(found, ways_between(values_of(rests), rests.m))
            seen[len(found)] = True
        self.assertEqual(sorted(seen), [1, 2, 3])

    def test_all_small_ones(self):
        for m in range(1, 14):
            for n in range(-2, m + 2):
                for many in range(1, m + 2):
                    rests = Rests(n, 5, m, many)
                    self.assertEqual(self.check(rests), ways_between(values_of(rests), m))

    def test_edges(self):
        self.assertEqual(self.check(Rests(5, 3, 17, 1)), {17: 1})
        self.assertEqual(self.check(Rests(0, 3, 17, 50)), {17: 1})
        self.assertEqual(self.check(Rests(34, 3, 17, 50)), {17: 1})
        self.assertEqual(self.check(Rests(5, 3, 1, 50)), {1: 1})
        self.assertEqual(self.check(Rests(5, 3, 17, 17)), {1: 17})
        self.assertEqual(self.check(Rests(5, 3, 17, 16)), {1: 15, 2: 1})
        self.assertEqual(self.check(Rests(10, 3, 16, 999)), {2: 8})
        self.assertEqual(self.check(Rests(1, 0, 100, 5)), {1: 4, 96: 1})
        # Both lesser ways are alike.
        self.assertEqual(self.check(Rests(2, 0, 5, 4)), {1: 3, 2: 1})

    def test_great_ones(self):
        most = 10 ** 60
        self.assertEqual(self.check(Rests(7, 1, most, 2 * most)), {1: most})
        self.assertEqual(self.check(Rests(1, 1, most, most // 2)), {1: most // 2 - 1, most // 2 + 1: 1})
        chance = generator(445)
        for _ in range(50):
            rests = Rests(chance.randint(0, most), chance.randint(0, most), most + 1, chance.randint(1, most))
            unlike = rests.m // gcd(rests.n, rests.m)
            self.assertEqual(sum(self.check(rests).values()), min(rests.many, unlike))


if __name__ == "__main__":
    unittest.main()
