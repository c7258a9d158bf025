"""The four kinds of evidence about a region ([4]) and the conventions for them ([2])."""

import unittest

from pointorstrip.papers import Empty, Endless, Point, Thin
from pointorstrip.regions import Region
from trying import check_equality, generator, some_turn

# Rows that say nothing: with them regions have more and longer rows than judge takes.
LONG = 10 ** 310
IDLE = [(0, 0, k) for k in range(70)] + [(0, 0, LONG)]


class PaperTest(unittest.TestCase):
    def check(self, paper, rows, told):
        self.assertIs(paper.shows(Region(rows)), told, (vars(paper), rows))
        more = list(rows) + IDLE
        if isinstance(paper, Empty):
            paper = Empty(list(paper.weights) + [0] * len(IDLE))
        self.assertIs(paper.shows(Region(more)), told, (vars(paper), rows))

    def test_what_is_kept_and_equal(self):
        check_equality(self, Point, [1, 2], [3, 1])
        check_equality(self, Thin, [1, 2], [3, 1])
        check_equality(self, Endless, [1, 2, 3, 4], [0, 0, 0, 0])
        check_equality(self, Empty, [(1, 2)], [(2, 1)])
        self.assertNotEqual(Point(1, 2), Thin(1, 2))
        self.assertNotEqual(Empty([1, 2]), Empty([1, 2, 0]))
        told = Endless(1, 2, 3, 4)
        self.assertEqual((told.x, told.y, told.d, told.e), (1, 2, 3, 4))
        self.assertEqual((Point(5, 6).x, Point(5, 6).y), (5, 6))
        self.assertEqual((Thin(5, 6).u, Thin(5, 6).v), (5, 6))
        weights = [1, 0, 2]
        empty = Empty(weights)
        weights.append(7)
        self.assertEqual(empty.weights, (1, 0, 2))
        self.assertIs(type(empty.weights), tuple)
        self.assertEqual(Empty((1, 0, 2)), empty)

    def test_bool(self):
        self.assertIs(bool(Point(0, 0)), True)
        self.assertIs(bool(Endless(0, 0, 0, 0)), True)
        self.assertIs(bool(Empty([])), False)
        self.assertIs(bool(Empty([1])), False)
        self.assertIs(bool(Thin(1, 0)), False)

    def test_point(self):
        rows = [(1, 0, 5), (2, -3, 4)]
        self.check(Point(5, 2), rows, True)
        self.check(Point(6, 3), rows, False)
        self.check(Point(5, 1), rows, False)
        self.check(Point(LONG, -LONG), [(1, 1, 0)], True)
        self.check(Point(LONG, 1 - LONG), [(1, 1, 0)], False)
        self.check(Point(0, 0), [], True)

    def test_endless(self):
        rows = [(-1, 0, 0), (1, -2, 3)]
        self.check(Endless(0, 0, 2, 1), rows, True)
        self.check(Endless(0, 0, 0, 1), rows, True)
        self.check(Endless(-1, 0, 2, 1), rows, False)
        self.check(Endless(0, 0, 0, 0), rows, False)
        self.check(Endless(0, 0, 3, 1), rows, False)
        self.check(Endless(0, 0, -1, 0), rows, False)
        self.check(Endless(0, 0, 0, -LONG), rows, False)
        self.check(Endless(7, 7, -1, 1), [], True)
        self.check(Endless(7, 7, 0, 0), [], False)

    def test_empty(self):
        pair = [(3, 5, -1), (-6, -10, 1)]
        self.check(Empty([2, 1]), pair, True)
        self.check(Empty([200, 100]), pair, True)
        three = [(1, 0, 0), (0, 1, 0), (-1, -1, -1), (5, 5, 5)]
        self.check(Empty([1, 1, 1, 0]), three, True)
        self.check(Empty([1]), [(0, 0, -1)], True)
        # Too few, too many.
        self.assertIs(Empty([1, 1, 1]).shows(Region(three)), False)
        self.assertIs(Empty([2, 1]).shows(Region(pair + [(0, 0, 0)])), False)
        self.assertIs(Empty([2, 1, 0]).shows(Region(pair)), False)
        self.assertIs(Empty([]).shows(Region(pair)), False)
        # Below 0, and nothing else is wrong.
        self.check(Empty([1, 1, -1]), [(1, 0, -2), (-1, 0, 1), (0, 0, 0)], False)
        self.check(Empty([1, 1, -1]), [(1, 0, 0), (0, 1, 0), (1, 1, 1)], False)
        self.check(Empty([-1]), [(0, 0, 1)], False)
        # Four above 0, and nothing else is wrong.
        cross = [(1, 0, -1), (-1, 0, -1), (0, 1, -1), (0, -1, -1)]
        self.check(Empty([1, 1, 1, 1]), cross, False)
        self.check(Empty([1, 1, 0, 0]), cross, True)
        # A sum that is not (0, 0, c) with c below 0.
        self.check(Empty([1, 1]), [(1, 0, -1), (0, 0, -1)], False)
        self.check(Empty([1, 1]), [(0, 1, -1), (0, 0, -1)], False)
        self.check(Empty([1, 1]), [(1, 1, 3), (-1, -1, -3)], False)
        self.check(Empty([1, 1]), [(1, 1, 3), (-1, -1, -2)], False)
        self.check(Empty([0, 0]), pair, False)
        self.check(Empty([]), [], False)
        self.check(Empty([LONG, 1]), [(1, -1, -1), (-LONG, LONG, LONG - 1)], True)
        self.check(Empty([LONG, 1]), [(1, -1, -1), (-LONG, LONG, LONG)], False)

    def test_thin(self):
        line = [(2, 4, 1), (-2, -4, -1)]
        self.check(Thin(1, 2), line, True)
        self.check(Thin(-1, -2), line, True)
        # A common divisor, or a direction of which 0 is one.
        self.check(Thin(2, 4), line, False)
        self.check(Thin(0, 0), line, False)
        self.check(Thin(0, 2), [(0, 4, 1), (0, -4, -1)], False)
        self.check(Thin(0, 1), [(0, 4, 1), (0, -4, -1)], True)
        # Neither a least nor a greatest value, then one of both.
        self.check(Thin(1, 0), line, False)
        self.check(Thin(1, 0), [(1, 0, 0), (0, 4, 1), (0, -4, -1)], False)
        self.check(Thin(1, 0), [(-1, 0, 0), (0, 4, 1), (0, -4, -1)], False)
        self.check(Thin(1, 0), [(-1, 0, 0), (1, 0, 0), (0, 4, 1), (0, -4, -1)], True)

    def test_thin_needs_something_in_it(self):
        # Each whole value is within both ends, and has no whole point.
        self.check(Thin(1, 0), [(1, 0, 0), (-1, 0, -1)], False)
        self.check(Thin(0, 1), [(0, 2, 0), (0, -2, -1)], False)
        self.check(Thin(1, 0), [(1, 0, 2), (-1, 0, -1), (0, 1, 0), (0, -1, -1)], False)
        self.check(Thin(1, 0), [(4, 0, 3), (-4, 0, -1), (0, 0, -1)], False)
        # One point of fractions is enough.
        self.check(Thin(1, 0), [(2, 0, 1), (-2, 0, -1), (0, 3, 1), (0, -3, -1)], True)

    def test_thin_counts_whole_values(self):
        flat = [(0, 3, 2), (0, -3, -1)]
        self.check(Thin(1, 0), flat + [(1, 0, 3), (-1, 0, 0)], True)
        self.check(Thin(1, 0), flat + [(1, 0, 4), (-1, 0, 0)], False)
        # Nearly five wide, with four whole values.
        self.check(Thin(1, 0), flat + [(10, 0, 39), (-10, 0, 9)], True)
        self.check(Thin(1, 0), flat + [(10, 0, 40), (-10, 0, -1)], True)
        self.check(Thin(1, 0), flat + [(10, 0, 40), (-10, 0, 0)], False)
        self.check(Thin(1, 0), flat + [(10, 0, 39), (-10, 0, 10)], False)
        self.check(Thin(1, 0), flat + [(1, 0, LONG + 3), (-1, 0, -LONG)], True)
        self.check(Thin(1, 0), flat + [(1, 0, LONG + 4), (-1, 0, -LONG)], False)
        # No whole value at all, and none though the region is without end across.
        self.check(Thin(1, 0), [(3, 0, 2), (-3, 0, -1)], True)

    def test_thin_looks_for_whole_points(self):
        # y from 1 / 3 to 2 / 3 with x from 0 to 2; then a corner that holds (1, 1).
        self.check(Thin(1, 0), [(0, 3, 2), (0, -3, -1), (1, 0, 2), (-1, 0, 0)], True)
        self.check(Thin(1, 0), [(0, 3, 3), (0, -3, -1), (1, 0, 2), (-1, 0, 0)], False)
        self.check(Thin(1, 0), [(3, 3, 5), (-3, 0, -1), (0, -3, -1)], True)
        self.check(Thin(1, 0), [(3, 3, 6), (-3, 0, -1), (0, -3, -1)], False)
        # On the value itself there are points, fractions alone.
        self.check(Thin(2, 3), [(2, 3, 0), (-2, -3, 0), (3, 0, 2), (-3, 0, -1)], True)
        self.check(Thin(2, 3), [(2, 3, 0), (-2, -3, 0), (3, 0, 9), (-3, 0, -1)], False)
        # A column without an end has whole points.
        self.check(Thin(1, 0), [(2, 0, 2), (-2, 0, -1)], False)
        self.check(Thin(1, 0), [(2, 0, 2), (-2, 0, -1), (0, 1, 0)], False)
        self.check(Thin(1, 0), [(2, 0, 2), (-2, 0, -1), (0, -1, 0)], False)

    def test_thin_turned_about(self):
        chance = generator(4)
        flat = [(0, 3, 2), (0, -3, -1), (1, 0, 3), (-1, 0, 0)]
        wide = [(0, 3, 2), (0, -3, -1), (1, 0, 4), (-1, 0, 0)]
        for size in (5, 10 ** 6, 10 ** 100, 10 ** 400):
            turn = some_turn(chance, size)
            self.check(Thin(turn.d, -turn.b), turn.region(Region(flat)).rows, True)
            self.check(Thin(turn.d, -turn.b), turn.region(Region(wide)).rows, False)
            self.check(Thin(-turn.c, turn.a), turn.region(Region(wide)).rows, True)


if __name__ == "__main__":
    unittest.main()
