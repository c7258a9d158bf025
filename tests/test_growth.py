"""How many whole points a hull has as it grows ([51])."""

import unittest

from pointorstrip.counting import count
from pointorstrip.errors import BadNumber
from pointorstrip.growth import Growth, by_counts, growth
from pointorstrip.hulls import sides
from pointorstrip.moving import scaled
from pointorstrip.regions import Region
from test_triangles import NONE, some_corners
from trying import check_equality, generator


class GrowthTest(unittest.TestCase):
    def test_against_counting(self):
        chance = generator(513)
        for _ in range(200):
            corners = some_corners(chance, chance.choice([1, 3, 9]))
            found = growth(corners)
            self.assertIsInstance(found, Growth)
            region = Region(sides(corners))
            for times in (1, 2, 3, 7):
                grown = scaled(region, times)
                inner = Region([(a, b, c - 1) for a, b, c in grown.rows])
                self.assertEqual(found.whole(times), count(grown))
                self.assertEqual(found.within(times), count(inner))
                self.assertEqual(found.on_border(times), count(grown) - count(inner))
            self.assertEqual(found.whole(0), 1)

    def test_by_hand(self):
        found = growth(((0, 0), (1, 0), (0, 1)))
        self.assertEqual((found.twice, found.around), (1, 3))
        self.assertEqual([found.whole(times) for times in range(4)], [1, 3, 6, 10])
        self.assertEqual([found.within(times) for times in range(1, 6)], [0, 0, 1, 3, 6])
        self.assertEqual([found.on_border(times) for times in (1, 2, 10 ** 50)], [3, 6, 3 * 10 ** 50])
        found = growth(((2, 2), (0, 2), (0, 0), (2, 0)))
        self.assertEqual((found.twice, found.around), (8, 8))
        self.assertEqual([found.whole(times) for times in range(4)], [1, 9, 25, 49])
        # No hull is too large for this.
        most = 10 ** 50
        found = growth(((0, 0), (most, 0), (most, most), (0, most)))
        self.assertEqual((found.twice, found.around), (2 * most * most, 4 * most))
        self.assertEqual(found.whole(most), (most * most + 1) ** 2)
        self.assertEqual(growth(((0, 0), (2001, 1), (2000, 1))), Growth(1, 3))

    def test_errors(self):
        for twice, around, value in (
            (None, "3", None), (True, 3, True), (1, None, None), (0, False, False), (1.0, 3, 1.0),
            (0, 3, 0), (-1, 2, -1), (0, 0, 0), (1, 2, 2), (1, 1, 1), (1, 5, 5), (1, -3, -3), (5, 9, 9),
            (5, 4, 4), (8, 3, 3), (8, 12, 12), (8, 9, 9),
        ):
            with self.assertRaises(BadNumber) as caught:
                Growth(twice, around)
            self.assertIs(caught.exception.value, value)
        for twice, around in ((1, 3), (5, 3), (5, 5), (5, 7), (8, 4), (8, 10), (2, 4)):
            found = Growth(twice, around)
            self.assertEqual((found.twice, found.around), (twice, around))
            for times in (-1, None, True, 1.0, "1"):
                for ask in (found.whole, found.within, found.on_border):
                    with self.assertRaises(BadNumber) as caught:
                        ask(times)
                    self.assertIs(caught.exception.value, times)
            for ask in (found.within, found.on_border):
                with self.assertRaises(BadNumber) as caught:
                    ask(0)
                self.assertEqual(caught.exception.value, 0)
        for corners in NONE:
            with self.assertRaises(BadNumber) as caught:
                growth(corners)
            self.assertIs(caught.exception.value, corners)

    def test_equality(self):
        check_equality(self, Growth, [5, 3], [7, 5])
        self.assertTrue(Growth(5, 3))


class CountsTest(unittest.TestCase):
    def test_all_of_a_range(self):
        known = {}
        for twice in range(1, 60):
            for around in range(3, twice + 3):
                if (twice + around) % 2 == 0:
                    told = Growth(twice, around)
                    known[told.whole(1), told.whole(2)] = told
        with_one = 0
        for once in range(1, 20):
            for twice in range(1, 50):
                found = by_counts(once, twice)
                self.assertEqual(found, known.get((once, twice)))
                with_one = with_one + (found is not None)
        self.assertGreater(with_one, 50)
        for once, twice in known:
            self.assertEqual(by_counts(once, twice), known[once, twice])

    def test_great_ones(self):
        most = 10 ** 50
        told = Growth(2 * most * most, 4 * most)
        self.assertEqual(by_counts(told.whole(1), told.whole(2)), told)
        self.assertIsNone(by_counts(told.whole(1), 2 * told.whole(1)))

    def test_errors(self):
        for once, twice, value in (
            (None, "x", None), (True, 0, True), (0, None, 0), (-3, 6, -3), (3, None, None), (3, 0, 0),
            (3, -1, -1), (3, True, True), (3.0, 6, 3.0), (3, "6", "6"),
        ):
            with self.assertRaises(BadNumber) as caught:
                by_counts(once, twice)
            self.assertIs(caught.exception.value, value)


if __name__ == "__main__":
    unittest.main()
