"""Two rounded lines in a range ([17], [18])."""

import unittest

from pointorstrip.agreeing import (
    Above, Agree, Below, Beyond, Differ, Within, agree, judge_below, judge_within,
)
from pointorstrip.errors import BadNumber, TooLarge
from pointorstrip.papers import Empty, Point, Thin
from pointorstrip.rounded import Line
from trying import check_equality, generator, refutes, some_lines

FAR = 700


def places(low, high):
    """The places of a range in its order, as far as lines with small numbers ask for it."""
    if low is not None:
        return list(range(low, low + FAR if high is None else high + 1))
    if high is not None:
        return list(range(high, high - FAR, -1))
    return sorted(range(-FAR, FAR), key=lambda x: 2 * x - 1 if x > 0 else -2 * x)


def first_rows(one, other, low, high):
    """The rows of the first region, as the document tells them."""
    rows = []
    if low is not None:
        rows.append((-1, 0, -low))
    if high is not None:
        rows.append((1, 0, high))
    return rows + [(-one.a, one.m, one.b), (other.a, -other.m, -other.b - 1)]


def some_ends(chance):
    return chance.choice([None, chance.randint(-30, 30)]), chance.choice([None, chance.randint(-30, 30)])


class AgreeTest(unittest.TestCase):
    def check_agree(self, found, one, other, low, high):
        self.assertIsInstance(found, Agree)
        self.assertIs(bool(found), True)
        self.assertTrue(refutes(found.first, first_rows(one, other, low, high)))
        self.assertTrue(refutes(found.last, first_rows(other, one, low, high)))
        self.assertIs(found.shows(one, other, low, high), True)

    def check(self, one, other, low, high):
        """agree(..), held against what the document says of it; the place, None for an Agree."""
        found = agree(one, other, low, high)
        if isinstance(found, Agree):
            self.check_agree(found, one, other, low, high)
            return None
        self.assertIsInstance(found, Differ)
        self.assertIs(bool(found), False)
        self.assertIs(found.shows(one, other, low, high), True)
        x = found.x
        self.assertNotEqual(one.at(x), other.at(x))
        if low is not None:
            ends = (low, x - 1)
        elif high is not None:
            ends = (x + 1, high)
        else:
            ends = (1 - x, x - 1) if x > 0 else (x + 1, -x)
        if ends[0] > ends[1]:
            self.assertIsNone(found.ahead)
        else:
            self.check_agree(found.ahead, one, other, *ends)
        return x

    def test_by_hand(self):
        third = Line(1, 0, 3)
        # A shortcut for bytes, right from 0 on up to 255 and further.
        quick = Line(171, 0, 512)
        self.assertIsNone(self.check(third, quick, 0, 255))
        self.assertEqual(self.check(third, quick, 0, None), 512)
        self.assertEqual(self.check(third, quick, None, 255), -3)
        self.assertEqual(self.check(third, quick, None, None), -3)
        self.assertIsNone(self.check(third, quick, 256, 511))
        # Not equal, and alike everywhere.
        self.assertIsNone(self.check(Line(1, 0, 2), Line(2, 1, 4), None, None))
        self.assertIsNone(self.check(Line(1, 0, 2), Line(2, 1, 4), -5, None))
        self.assertIsNone(self.check(Line(1, 0, 2), Line(2, 1, 4), None, 5))
        # The orders.
        self.assertEqual(self.check(Line(0, 0, 1), Line(1, 0, 4), None, None), -1)
        self.assertEqual(self.check(Line(0, 0, 1), Line(1, 3, 4), None, None), 1)
        self.assertEqual(self.check(Line(0, 0, 1), Line(1, 2, 4), None, None), 2)
        self.assertEqual(self.check(Line(0, 0, 1), Line(1, 1, 4), None, None), -2)
        self.assertEqual(self.check(Line(0, 0, 1), Line(1, 1, 4), -9, None), -9)
        self.assertEqual(self.check(Line(0, 0, 1), Line(1, 1, 4), -1, None), 3)
        self.assertEqual(self.check(Line(0, 0, 1), Line(1, 1, 4), None, 9), 9)
        self.assertEqual(self.check(Line(0, 0, 1), Line(1, 1, 4), None, 2), -2)
        self.assertEqual(self.check(Line(0, 0, 1), Line(0, 1, 1), None, None), 0)
        self.assertIsNone(agree(Line(0, 0, 1), Line(0, 1, 1), None, None).ahead)
        # Empty ranges.
        self.assertIsNone(self.check(Line(0, 0, 1), Line(0, 1, 1), 5, 4))
        self.assertIsNone(self.check(Line(0, 0, 1), Line(5, 1, 1), 5, -10 ** 30))

    def test_against_going_through(self):
        chance = generator(81)
        told = {}
        for _ in range(1200):
            one, other = some_lines(chance)
            low, high = some_ends(chance)
            unlike = [x for x in places(low, high) if one.at(x) != other.at(x)]
            x = self.check(one, other, low, high)
            self.assertEqual(x, unlike[0] if unlike else None, (vars(one), vars(other), low, high))
            kind = (low is None, high is None, x is None)
            told[kind] = told.get(kind, 0) + 1
        self.assertEqual(len(told), 8)
        self.assertGreater(min(told.values()), 20)

    def test_long_numbers(self):
        word = 2 ** 64
        seventh = Line(1, 0, 7)
        shift = 2 ** 66
        quick = Line(shift // 7 + 1, 0, shift)
        self.assertIsNone(self.check(seventh, quick, 0, 2 ** 60))
        x = self.check(seventh, quick, 0, word * 9)
        self.assertEqual(x % 7, 6)
        exact = Line(10 ** 39 + 1, 5 * 10 ** 38, 10 ** 39)
        near = Line(1, 0, 1)
        self.assertEqual(self.check(near, exact, 0, None), 5 * 10 ** 38)
        self.assertEqual(self.check(near, exact, None, 0), -5 * 10 ** 38 - 1)

    def test_shows(self):
        one, other = Line(1, 0, 3), Line(171, 0, 512)
        found = agree(one, other, 0, 255)
        first, last = found.first, found.last
        self.assertNotEqual(first, last)
        self.assertIs(Agree(first, last).shows(one, other, 0, 255), True)
        self.assertIs(Agree(last, first).shows(other, one, 0, 255), True)
        for bent in (
            Agree(Thin(0, 2), last), Agree(first, Thin(0, 2)), Agree(Point(0, 0), last),
            Agree(first, Point(0, 0)), Agree(None, last), Agree(first, None),
            Agree(Empty([0, 0, 0, 0]), last), Agree(first, Empty([0, 0, 0, 0])),
        ):
            self.assertIs(bent.shows(one, other, 0, 255), False)
        # Not for a range in which they differ, whatever the papers are.
        for low, high in ((0, 512), (-3, 255), (0, None), (None, 255), (None, None)):
            self.assertIs(found.shows(one, other, low, high), False)
        # Each of the papers counts, and for its own region.
        under = agree(Line(0, 0, 1), Line(0, 0, 1), None, None)
        self.assertIs(under.shows(Line(0, 0, 1), Line(0, 0, 1), None, None), True)
        self.assertIs(under.shows(Line(0, 1, 1), Line(0, 0, 1), None, None), False)
        self.assertIs(under.shows(Line(0, 0, 1), Line(0, 1, 1), None, None), False)

    def test_shows_for_its_range_alone(self):
        one, other = Line(1, 0, 2), Line(1, 0, 2)
        found = agree(one, other, 3, 2)
        self.assertIs(found.shows(one, other, 3, 2), True)
        self.assertIs(found.shows(one, other, 3, 3), False)
        one, other = Line(0, 0, 1), Line(1, 0, 2)
        found = agree(one, other, 0, 1)
        self.assertIs(found.shows(one, other, 0, 1), True)
        self.assertIs(found.shows(one, other, 1, 1), True)
        self.assertIs(found.shows(one, other, 0, 2), False)
        self.assertIs(found.shows(one, other, -1, 1), False)

    def test_differ_shows(self):
        zero, line = Line(0, 0, 1), Line(1, 2, 4)
        for low, high in ((None, None), (0, None), (None, 1), (0, 9), (-2, 9)):
            found = agree(zero, line, low, high)
            self.assertIs(Differ(found.x, found.ahead).shows(zero, line, low, high), True)
            # A place further on, one at which they are alike, one outside.
            self.assertIs(Differ(0, found.ahead).shows(zero, line, low, high), False)
            self.assertIs(Differ(0, None).shows(zero, line, low, high), False)
            self.assertIs(Differ(found.x, None).shows(zero, line, low, high), False)
            for ahead in (Agree(None, None), found, 5, Agree(found.ahead.first, None),
                          Agree(None, found.ahead.last)):
                self.assertIs(Differ(found.x, ahead).shows(zero, line, low, high), False)
        for x in (3, 4, -9, -3):
            for ahead in (None, agree(zero, line, None, None).ahead):
                self.assertIs(Differ(x, ahead).shows(zero, line, None, None), False)
        self.assertIs(Differ(9, None).shows(zero, line, 9, 20), True)
        self.assertIs(Differ(9, None).shows(zero, line, 10, 20), False)
        self.assertIs(Differ(9, None).shows(zero, line, None, 9), True)
        self.assertIs(Differ(9, None).shows(zero, line, None, 8), False)
        self.assertIs(Differ(9, None).shows(zero, line, 9, 8), False)
        self.assertIs(Differ(0, None).shows(zero, Line(0, 1, 1), None, None), True)
        told = agree(zero, zero, 0, 0)
        self.assertIs(Differ(0, told).shows(zero, Line(0, 1, 1), None, None), False)
        self.assertIs(Differ(9, told).shows(zero, line, 9, 20), False)

    def test_shows_for_long_numbers(self):
        long = 10 ** 500
        one, other = Line(long, 0, long), Line(1, 0, 1)
        first, last = Empty([1, long]), Empty([long, 1])
        self.assertIs(Agree(first, last).shows(one, other, None, None), True)
        self.assertIs(Agree(last, first).shows(one, other, None, None), False)
        self.assertIs(Agree(first, first).shows(one, other, None, None), False)
        self.assertIs(Agree(last, last).shows(one, other, None, None), False)

    def test_equality(self):
        check_equality(self, Agree, [Thin(1, 0), Thin(0, 1)], [Thin(1, 1), Thin(1, 1)])
        check_equality(self, Differ, [1, None], [2, Agree(None, None)])
        self.assertNotEqual(Agree(1, 2), Within(1, 2))
        self.assertNotEqual(Above(1), Beyond(1))

    def check_errors(self, function, *between):
        """The errors of a function of two lines, what stands between and a range."""
        fine, long = Line(1, 2, 3), Line(10 ** 40, 2, 3)
        most = 10 ** 40
        for low, high, value in (
            ("low", "high", "low"), (None, "high", "high"), (True, None, True), (0, False, False),
            (1.0, 10 ** 40, 1.0), (10 ** 40, 1.0, 1.0),
        ):
            for one in (fine, long):
                with self.assertRaises(BadNumber) as caught:
                    function(one, fine, *between, low, high)
                self.assertIs(caught.exception.value, value)
        for one, other, low, high, figures in (
            (Line(most, 2, 3), fine, None, None, 41), (Line(1, -most, 3), fine, None, None, 41),
            (Line(1, 2, most), fine, 0, 0, 41), (fine, Line(-most, 2, 3), None, None, 41),
            (fine, Line(1, most, 3), None, None, 41), (fine, Line(1, 2, most), 3, 2, 41),
            (fine, Line(1, most - 1, 3), None, None, 41), (fine, fine, -most, None, 41),
            (fine, fine, None, most, 41), (fine, fine, most, most * 10, 42),
        ):
            with self.assertRaises(TooLarge) as caught:
                function(one, other, *between, low, high)
            self.assertEqual(caught.exception.number, figures)
        # Just within: of the first region it is -b - 1 of the other line that counts.
        function(Line(most - 1, most - 1, most - 1), fine, *between, 1 - most, most - 1)
        function(fine, Line(1 - most, most - 2, most - 1), *between, None, None)
        function(fine, Line(1, -most, 3), *between, None, None)

    def test_errors(self):
        self.check_errors(agree)
        self.check_errors(judge_below)
        self.check_errors(judge_within, 3)
        self.check_errors(judge_within, 10 ** 60)


class BelowTest(unittest.TestCase):
    def check(self, one, other, low, high):
        found = judge_below(one, other, low, high)
        self.assertIs(found.shows(one, other, low, high), True)
        self.assertIs(bool(found), isinstance(found, Below))
        if isinstance(found, Below):
            self.assertTrue(refutes(found.paper, first_rows(one, other, low, high)))
        else:
            self.assertIsInstance(found, Above)
            self.assertGreater(one.at(found.x), other.at(found.x))
            self.assertTrue(low is None or low <= found.x)
            self.assertTrue(high is None or found.x <= high)
        return bool(found)

    def test_against_going_through(self):
        chance = generator(82)
        told = [0, 0]
        for _ in range(800):
            one, other = some_lines(chance)
            low, high = some_ends(chance)
            found = self.check(one, other, low, high)
            told[found] += 1
            above = [x for x in places(low, high) if one.at(x) > other.at(x)]
            self.assertEqual(found, not above, (vars(one), vars(other), low, high))
        self.assertGreater(min(told), 100)

    def test_by_hand(self):
        self.assertTrue(self.check(Line(1, 0, 3), Line(1, 0, 3), None, None))
        self.assertTrue(self.check(Line(1, 0, 3), Line(1, 1, 3), None, None))
        self.assertFalse(self.check(Line(1, 1, 3), Line(1, 0, 3), None, None))
        self.assertTrue(self.check(Line(2, 0, 3), Line(1, 0, 3), None, 0))
        self.assertFalse(self.check(Line(2, 0, 3), Line(1, 0, 3), None, 2))
        self.assertTrue(self.check(Line(2, 0, 3), Line(1, 0, 3), 1, 1))
        self.assertTrue(self.check(Line(0, 9, 1), Line(0, 0, 1), 1, 0))
        long = 10 ** 39
        self.assertTrue(self.check(Line(long, long - 1, long), Line(1, 0, 1), None, None))
        self.assertFalse(self.check(Line(long, long, long), Line(1, 0, 1), -5, -5))
        self.assertFalse(self.check(Line(long + 1, 0, long), Line(1, 0, 1), 0, long))
        self.assertTrue(self.check(Line(long + 1, 0, long), Line(1, 0, 1), None, long - 1))

    def test_shows(self):
        one, other = Line(2, 0, 3), Line(1, 0, 3)
        found = judge_below(one, other, None, 0)
        self.assertIs(Below(found.paper).shows(one, other, None, 0), True)
        self.assertIs(Below(found.paper).shows(one, other, None, 3), False)
        self.assertIs(Below(found.paper).shows(other, one, None, 0), False)
        for paper in (Point(0, 0), Thin(2, 0), Empty([1, 1, 0]), Empty([1]), None):
            self.assertIs(Below(paper).shows(one, other, None, 0), False)
        self.assertIs(Above(2).shows(one, other, None, 9), True)
        self.assertIs(Above(2).shows(one, other, 2, 2), True)
        self.assertIs(Above(2).shows(one, other, 3, 9), False)
        self.assertIs(Above(2).shows(one, other, 0, 1), False)
        self.assertIs(Above(1).shows(one, other, None, 9), False)
        self.assertIs(Above(2).shows(other, one, None, 9), False)
        self.assertIs(Above(2).shows(one, one, None, None), False)

    def test_equality(self):
        check_equality(self, Below, [Thin(1, 0)], [Thin(0, 1)])
        check_equality(self, Above, [1], [2])


class WithinTest(unittest.TestCase):
    def check(self, one, other, gap, low, high):
        found = judge_within(one, other, gap, low, high)
        self.assertIs(found.shows(one, other, gap, low, high), True)
        self.assertIs(bool(found), isinstance(found, Within))
        if isinstance(found, Within):
            self.assertIsInstance(found.first, Below)
            self.assertIsInstance(found.last, Below)
            self.assertTrue(found.first.shows(one, other.raised(gap), low, high))
            self.assertTrue(found.last.shows(other, one.raised(gap), low, high))
        else:
            self.assertIsInstance(found, Beyond)
            self.assertGreater(abs(one.at(found.x) - other.at(found.x)), gap)
            self.assertTrue(low is None or low <= found.x)
            self.assertTrue(high is None or found.x <= high)
        return bool(found)

    def test_against_going_through(self):
        chance = generator(83)
        told = [0, 0]
        for _ in range(800):
            one, other = some_lines(chance)
            low, high = some_ends(chance)
            gap = chance.randint(0, 6)
            found = self.check(one, other, gap, low, high)
            told[found] += 1
            beyond = [x for x in places(low, high) if abs(one.at(x) - other.at(x)) > gap]
            self.assertEqual(found, not beyond, (vars(one), vars(other), gap, low, high))
        self.assertGreater(min(told), 100)

    def test_by_hand(self):
        one, other = Line(1, 0, 3), Line(1, 2, 3)
        self.assertFalse(self.check(one, other, 0, None, None))
        self.assertTrue(self.check(one, other, 1, None, None))
        self.assertTrue(self.check(other, one, 1, None, None))
        self.assertTrue(self.check(one, other, 0, 0, 0))
        self.assertFalse(self.check(one, other, 0, 0, 1))
        self.assertTrue(self.check(Line(1, 0, 1), Line(2, 0, 1), 10 ** 50, -10 ** 39, 10 ** 39))
        self.assertFalse(self.check(Line(1, 0, 1), Line(2, 0, 1), 10 ** 39 - 1, 0, 10 ** 39))
        self.assertTrue(self.check(Line(1, 0, 1), Line(2, 0, 1), 10 ** 39, 0, 10 ** 39))
        self.assertTrue(self.check(Line(5, 0, 1), Line(2, 9, 1), 0, 1, 0))

    def test_shows(self):
        one, other = Line(1, 0, 3), Line(1, 2, 3)
        found = judge_within(one, other, 1, None, None)
        first, last = found.first, found.last
        self.assertIs(Within(first, last).shows(one, other, 1, None, None), True)
        self.assertIs(Within(first, last).shows(one, other, 0, None, None), False)
        self.assertIs(Within(first, last).shows(one, other.raised(2), 1, None, None), False)
        self.assertIs(Within(first, last).shows(one.raised(2), other, 1, None, None), False)
        for bent in (first.paper, None, Above(0), Below(None), Below(Point(0, 0)),
                     Below(Thin(2, 0)), Agree(first.paper, last.paper)):
            self.assertIs(Within(bent, last).shows(one, other, 1, None, None), False)
            self.assertIs(Within(first, bent).shows(one, other, 1, None, None), False)
        self.assertIs(Beyond(1).shows(one, other, 0, None, None), True)
        self.assertIs(Beyond(1).shows(other, one, 0, None, None), True)
        self.assertIs(Beyond(1).shows(one, other, 1, None, None), False)
        self.assertIs(Beyond(0).shows(one, other, 0, None, None), False)
        self.assertIs(Beyond(1).shows(one, other, 0, 2, None), False)
        self.assertIs(Beyond(1).shows(one, other, 0, None, 0), False)

    def test_equality(self):
        check_equality(self, Within, [Below(None), Below(None)], [Below(1), Below(1)])
        check_equality(self, Beyond, [1], [2])

    def test_gaps(self):
        fine, long = Line(1, 2, 3), Line(10 ** 40, 2, 3)
        for gap in (-1, -10 ** 99, None, True, 1.0, "1"):
            for one, low in ((fine, None), (long, None), (fine, "low")):
                with self.assertRaises(BadNumber) as caught:
                    judge_within(one, fine, gap, low, None)
                self.assertIs(caught.exception.value, gap)
        self.assertTrue(judge_within(fine, fine, 0, None, None))


if __name__ == "__main__":
    unittest.main()
