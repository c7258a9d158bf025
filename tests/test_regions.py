"""Regions ([3]) and the conventions for them ([2])."""

import unittest

from pointorstrip.errors import BadRegion, PlaneError
from pointorstrip.regions import Region
from trying import check_equality


class Word(str):
    pass


class RegionTest(unittest.TestCase):
    def check_bad(self, number, function, *arguments):
        with self.assertRaises(BadRegion) as caught:
            function(*arguments)
        self.assertEqual(caught.exception.number, number)
        self.assertIsInstance(caught.exception, PlaneError)

    def test_rows_are_kept_as_a_tuple(self):
        rows = [(1, 2, 3), (0, 0, -1)]
        region = Region(rows)
        self.assertEqual(region.rows, ((1, 2, 3), (0, 0, -1)))
        self.assertIs(type(region.rows), tuple)
        self.assertEqual(Region(tuple(rows)).rows, region.rows)
        rows.append((5, 5, 5))
        self.assertEqual(len(region.rows), 2)
        self.assertEqual(Region([]).rows, ())
        self.assertEqual(Region(()).rows, ())

    def test_has(self):
        region = Region([(2, 3, 6), (-1, 0, 0), (0, -1, 1)])
        for x, y, told in ((0, 2, True), (3, 0, True), (0, -1, True), (3, 1, False),
                           (-1, 0, False), (0, -2, False), (4, -1, True), (5, -1, False)):
            self.assertIs(region.has(x, y), told, (x, y))
        self.assertIs(Region([]).has(10 ** 50, -10 ** 50), True)
        self.assertIs(Region([(0, 0, -1)]).has(0, 0), False)
        self.assertIs(Region([(0, 0, 0)]).has(0, 0), True)
        long = 10 ** 400
        self.assertIs(Region([(long, -1, 0)]).has(1, long), True)
        self.assertIs(Region([(long, -1, -1)]).has(1, long), False)

    def test_with_rows(self):
        region = Region([(1, 0, 3)])
        more = [(0, 1, 2), (0, 0, 0)]
        both = region.with_rows(more)
        self.assertIsInstance(both, Region)
        self.assertEqual(both.rows, ((1, 0, 3), (0, 1, 2), (0, 0, 0)))
        self.assertIs(type(both.rows), tuple)
        self.assertEqual(region.with_rows(tuple(more)), both)
        self.assertEqual(region.rows, ((1, 0, 3),))
        self.assertEqual(more, [(0, 1, 2), (0, 0, 0)])
        self.assertEqual(region.with_rows([]), region)

    def test_what_is_no_row_of_rows(self):
        for rows in (None, 5, "rows", {1: 2}, {(1, 2, 3)}, iter([(1, 2, 3)]), b"", True):
            self.check_bad(None, Region, rows)
            self.check_bad(None, Region([(1, 2, 3)]).with_rows, rows)

    def test_what_is_no_line_row(self):
        bad = [
            [1, 2, 3], (1, 2), (1, 2, 3, 4), (), (True, 2, 3), (1, False, 3), (1, 2, True),
            (1.0, 2, 3), (1, "2", 3), (1, 2, None), None, 7, "abc", Word("abc"),
        ]
        good = (1, -2, 10 ** 500)
        for row in bad:
            self.check_bad(0, Region, [row])
            self.check_bad(2, Region, [good, good, row, good, row])
            self.check_bad(1, Region, (good, row))
            self.check_bad(0, Region([]).with_rows, [row])
            self.check_bad(1, Region([]).with_rows, [good, row, row])
            with self.assertRaises(BadRegion):
                Region([good]).with_rows((row,))

    def test_number_in_with_rows_counts_from_the_rows_given(self):
        self.check_bad(1, Region([(1, 1, 1)] * 5).with_rows, [(1, 1, 1), None])

    def test_equality(self):
        check_equality(self, Region, [[(1, 2, 3)]], [[(1, 2, 4)]])
        self.assertEqual(Region([(1, 2, 3)]), Region(((1, 2, 3),)))
        self.assertNotEqual(Region([(1, 0, 1), (0, 1, 1)]), Region([(0, 1, 1), (1, 0, 1)]))
        self.assertTrue(Region([]))
        self.assertTrue(Region([(0, 0, -1)]))


if __name__ == "__main__":
    unittest.main()
