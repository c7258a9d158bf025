"""Sums of rounded lines and numbers of whole points ([13], [14])."""

import unittest

from pointorstrip.counting import count, total
from pointorstrip.errors import BadNumber, TooLarge
from pointorstrip.hulls import hull
from pointorstrip.judging import judge
from pointorstrip.papers import Endless
from pointorstrip.regions import Region
from trying import box_rows, generator, points_of, some_rows, some_turn


class TotalTest(unittest.TestCase):
    def test_against_going_through(self):
        chance = generator(51)
        for _ in range(3000):
            a, b = chance.randint(-60, 60), chance.randint(-60, 60)
            m, many = chance.randint(1, 25), chance.randint(0, 40)
            told = sum([(a * i + b) // m for i in range(many)])
            self.assertEqual(total(a, b, m, many), told, (a, b, m, many))

    def test_long_numbers(self):
        many = 10 ** 300
        self.assertEqual(total(1, 0, 1, many), many * (many - 1) // 2)
        self.assertEqual(total(2, 1, 2, many), many * (many - 1) // 2)
        self.assertEqual(total(-3, 0, 1, many), -3 * many * (many - 1) // 2)
        self.assertEqual(total(0, -1, 10 ** 200, many), -many)
        # (a i) // m and (-a i - 1) // m are -1 together.
        chance = generator(52)
        for _ in range(20):
            a, b = chance.randint(-many, many), chance.randint(-many, many)
            m, long = chance.randint(1, many), chance.randint(1, many)
            self.assertEqual(total(a, b, m, long) + total(-a, -b - 1, m, long), -long)
            # Cut in two, and gone through backwards.
            part = chance.randint(0, long)
            rest = total(a, a * part + b, m, long - part)
            self.assertEqual(total(a, b, m, long), total(a, b, m, part) + rest)
            self.assertEqual(total(a, b, m, long), total(-a, a * (long - 1) + b, m, long))

    def test_known_sum(self):
        # For p and q without a common divisor the sum is (p - 1) (q - 1) / 2.
        p, q = 10 ** 150 + 1, 3 * 10 ** 149
        self.assertEqual(total(p, 0, q, q), (p - 1) * (q - 1) // 2)

    def test_errors(self):
        for arguments, value in (
            ((None, "b", 0, -1), None), ((1, "b", 0, -1), "b"), ((1, 1, True, "n"), True),
            ((1, 1, 0, False), False), ((1, 1, 0, -1), 0), ((1, 1, -7, -1), -7),
            ((1, 1, 1, -1), -1), ((1, 1, 1, -10 ** 50), -10 ** 50), ((1.0, 1, 1, 1), 1.0),
        ):
            with self.assertRaises(BadNumber) as caught:
                total(*arguments)
            self.assertIs(type(caught.exception.value), type(value))
            self.assertEqual(caught.exception.value, value)
        self.assertEqual(total(5, 5, 1, 0), 0)


class CountTest(unittest.TestCase):
    def test_by_hand(self):
        for rows, told in (
            ([], None), ([(0, 0, -1)], 0), ([(1, 0, 3)], None), ([(2, 4, 1), (-2, -4, -1)], 0),
            ([(7, 12, 5), (-7, -12, -5)], None), ([(1, 0, 3), (-1, 0, -3), (0, 1, 0)], None),
            ([(2, 0, 7), (-2, 0, -7), (0, 1, 0)], 0), ([(3, 0, 2), (-3, 0, -1)], 0),
            ([(1, 0, 3), (-1, 0, -3), (0, 1, 4), (0, -1, -4)], 1),
            ([(-1, 0, 0), (0, -1, 0), (1, 1, 3)], 10), ([(3, 3, 5), (-3, 0, -1), (0, -3, -1)], 0),
            ([(1, 0, 1), (-1, 0, -2)], 0), ([(2, 3, 1), (-2, -3, -1), (1, 0, 6), (-1, 0, 6)], 4),
        ):
            self.assertEqual(count(Region(rows)), told, rows)

    def test_against_going_through(self):
        chance = generator(53)
        for _ in range(1500):
            size = chance.randint(1, 10)
            rows = some_rows(chance) + box_rows(size)
            chance.shuffle(rows)
            region = Region(rows)
            self.assertEqual(count(region), len(points_of(region, size)), rows)
            turned = some_turn(chance, 10 ** 6).region(region)
            self.assertEqual(count(turned), count(region), rows)

    def test_without_end(self):
        chance = generator(54)
        found = {None: 0, 0: 0}
        for _ in range(500):
            rows = some_rows(chance)[:3]
            many = count(Region(rows))
            if many is None:
                self.assertIsInstance(hull(Region(rows)), Endless)
            if many in found:
                found[many] += 1
                self.assertEqual(many is None, bool(judge(Region(rows))))
        self.assertGreater(min(found.values()), 20)

    def test_long_numbers(self):
        most = 10 ** 40 - 1
        self.assertEqual(count(Region(box_rows(most))), (2 * most + 1) ** 2)
        chance = generator(55)
        for _ in range(40):
            rows = [(1, 0, chance.randint(0, most)), (-1, 0, chance.randint(0, most))]
            for sign in (1, -1) * chance.randint(1, 18):
                a, b = chance.randint(-most, most), sign * chance.randint(1, most)
                rows.append((a, b, chance.randint(-most // 9, most)))
            region = Region(rows)
            many = count(region)
            # Cut by a row, the numbers add up.
            u, v, t = [chance.randint(-most, most) for _ in range(3)]
            parts = count(region.with_rows([(u, v, t)])), count(region.with_rows([(-u, -v, -t - 1)]))
            self.assertEqual(sum(parts), many)
            self.assertEqual(many > 0, bool(judge(region)))

    def test_area_and_border(self):
        chance = generator(56)
        for _ in range(60):
            size = 10 ** chance.choice([1, 3, 5])
            rows = []
            for a, b in ((1, 2), (-3, 1), (-1, -1), (2, -3), (1, 0)):
                rows.append((a, b, chance.randint(1, size)))
            corners = hull(Region(rows)).corners
            if len(corners) < 3:
                continue
            twice = border = 0
            rows = []
            for at, (x, y) in enumerate(corners):
                s, t = corners[(at + 1) % len(corners)]
                twice += x * t - y * s
                rows.append((t - y, x - s, (t - y) * x + (x - s) * y))
                line = [rows[-1], tuple(-told for told in rows[-1])]
                ends = [(1, 0, max(x, s)), (-1, 0, -min(x, s)), (0, 1, max(y, t)), (0, -1, -min(y, t))]
                border += count(Region(line + ends)) - 1
            self.assertEqual(twice, 2 * count(Region(rows)) - border - 2)

    def test_bounds(self):
        most = 10 ** 40
        for rows, number in (
            ([(1, 2, 3)] * 41, 41), ([(most, 2, 3)] * 41, 41), ([(1, -most, 3)], 41),
            ([(1, 2, 3), (0, 0, most * 10)], 42),
        ):
            with self.assertRaises(TooLarge) as caught:
                count(Region(rows))
            self.assertEqual(caught.exception.number, number)
        self.assertIsNone(count(Region([(-1, 2, 3)] * 40)))
        self.assertIsNone(count(Region([(1 - most, most - 1, 1 - most)])))


if __name__ == "__main__":
    unittest.main()
