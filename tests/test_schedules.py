"""Deeds that run again and again ([52], [53])."""

import itertools
import unittest
from math import lcm

from pointorstrip.errors import BadNumber, TooLarge
from pointorstrip.papers import Empty, Point, Thin
from pointorstrip.regions import Region
from pointorstrip.schedules import Apart, Clash, Deed, are_apart, arrange, meet
from trying import check_equality, generator, refutes


def rows_of(one, other):
    """The rows of the turns that run at once, as the document tells them."""
    p, l, q, k = one.period, one.length, other.period, other.length
    g = other.start - one.start
    return [(-1, 0, 0), (0, -1, 0), (p, -q, g + k - 1), (-p, q, l - 1 - g)]


def times_of(deed, turn):
    start = deed.start + turn * deed.period
    return range(start, start + deed.length)


def first_clash(one, other, turns):
    """The first turns of so many in which both run at once, with the time, by trying; or None."""
    for i in range(turns):
        for j in range(turns):
            both = sorted(set(times_of(one, i)) & set(times_of(other, j)))
            if both:
                return (i, j), both[0]
    return None


def some_deed(chance, most=9):
    period = chance.randint(1, most)
    return Deed(period, chance.randint(-20, 20), chance.choice([1, chance.randint(1, period), period]))


class DeedTest(unittest.TestCase):
    def test_runs(self):
        chance = generator(521)
        for _ in range(100):
            deed = some_deed(chance)
            told = {time for turn in range(100) for time in times_of(deed, turn)}
            for time in range(-30, 60):
                self.assertIs(deed.runs(time), time in told)
        deed = Deed(10 ** 40, 5, 10 ** 40 - 1)
        self.assertEqual([deed.runs(time) for time in (4, 5, 10 ** 40 + 3, 10 ** 40 + 4, 10 ** 40 + 5)],
                         [False, True, True, False, True])

    def test_errors(self):
        for period, start, length, value in (
            (None, "s", 0, None), (0, None, 0, None), (0, 5, None, None), (True, 5, 1, True),
            (5, False, 1, False), (5, 1, True, True), (5, 1.0, 9, 1.0), (0, 5, 0, 0), (0, 5, 1, 0), (-3, 5, 9, -3),
            (5, 0, 0, 0), (5, 0, 6, 6), (5, 0, -1, -1), (1, 0, 2, 2),
        ):
            with self.assertRaises(BadNumber) as caught:
                Deed(period, start, length)
            self.assertIs(caught.exception.value, value)
        deed = Deed(5, -7, 5)
        self.assertEqual((deed.period, deed.start, deed.length), (5, -7, 5))

    def test_equality(self):
        check_equality(self, Deed, [5, 6, 2], [7, 5, 3])
        check_equality(self, Apart, [Thin(1, 0)], [Thin(0, 1)])
        check_equality(self, Clash, [1, (2, 3), Thin(1, 0)], [2, (3, 2), Thin(0, 1)])


class MeetTest(unittest.TestCase):
    def check(self, one, other):
        """meet(..), held against what the document says of it; the turns and the time, or None."""
        found = meet(one, other)
        self.assertIs(found.shows(one, other), True)
        rows = rows_of(one, other)
        if isinstance(found, Apart):
            self.assertIs(bool(found), True)
            self.assertTrue(refutes(found.paper, rows))
            return None
        self.assertIsInstance(found, Clash)
        self.assertIs(bool(found), False)
        self.assertIs(type(found.turns), tuple)
        i, j = found.turns
        self.assertTrue(Region(rows).has(i, j))
        self.assertFalse(Region(rows).has(i, j - 1))
        self.assertTrue(refutes(found.ahead, rows + [(1, 0, i - 1)]))
        self.assertTrue(one.runs(found.time) and other.runs(found.time))
        self.assertEqual(found.time, max(one.start + i * one.period, other.start + j * other.period))
        return found.turns, found.time

    def test_against_going_through_time(self):
        chance = generator(522)
        seen = {}
        for _ in range(500):
            one, other = some_deed(chance), some_deed(chance)
            if chance.random() < 0.5:
                step = chance.randint(2, 4)
                one = Deed(one.period * step, one.start, min(one.length, step))
                other = Deed(other.period * step, other.start, 1)
            told = self.check(one, other)
            self.assertEqual(told, first_clash(one, other, 45))
            last = max(one.start, other.start) + 2 * lcm(one.period, other.period)
            at_once = [time for time in range(-21, last) if one.runs(time) and other.runs(time)]
            self.assertEqual(told is None, not at_once)
            seen[told is None] = seen.get(told is None, 0) + 1
        self.assertGreater(min(seen.values()), 60)

    def test_by_hand(self):
        # Alike periods.
        self.assertIsNone(self.check(Deed(7, 0, 3), Deed(7, 3, 4)))
        self.assertEqual(self.check(Deed(7, 0, 3), Deed(7, 2, 4)), ((0, 0), 2))
        self.assertEqual(self.check(Deed(7, 0, 3), Deed(7, 3, 5)), ((1, 0), 7))
        self.assertEqual(self.check(Deed(7, 0, 7), Deed(7, 30, 1)), ((4, 0), 30))
        # With and without a common divisor.
        self.assertIsNone(self.check(Deed(6, 0, 1), Deed(4, 1, 1)))
        self.assertEqual(self.check(Deed(6, 0, 1), Deed(4, 2, 1)), ((1, 1), 6))
        self.assertEqual(self.check(Deed(5, 0, 1), Deed(7, 3, 1)), ((2, 1), 10))
        self.assertEqual(self.check(Deed(1, 5, 1), Deed(9, 2, 1)), ((6, 1), 11))
        # The length is the period.
        self.assertEqual(self.check(Deed(5, 3, 5), Deed(9, -100, 1)), ((1, 12), 8))
        # Starts far apart, and below 0.
        most = 10 ** 40
        self.assertEqual(self.check(Deed(2, -most, 1), Deed(2, most, 1)), ((most, 0), most))
        self.assertIsNone(self.check(Deed(2, -most, 1), Deed(2, most + 1, 1)))
        self.assertEqual(self.check(Deed(2, most, 1), Deed(2, -most, 1)), ((0, most), most))
        self.assertEqual(self.check(Deed(10, -3, 4), Deed(10, -5, 3)), ((0, 0), -3))

    def test_great_ones(self):
        chance = generator(523)
        most = 10 ** 40
        for _ in range(50):
            one = Deed(chance.randint(1, most), chance.randint(-most, most), 1)
            other = Deed(chance.randint(1, most), chance.randint(-most, most), 1)
            self.check(one, other)
            step = 10 ** 10
            self.check(Deed(one.period * step, one.start, step // 2), Deed(other.period * step, 5, step // 3))

    def test_shows(self):
        one, other = Deed(5, 0, 2), Deed(7, 3, 1)
        found = meet(one, other)
        time, turns, ahead = found.time, found.turns, found.ahead
        self.assertEqual((time, turns), (10, (2, 1)))
        self.assertIs(Clash(time, list(turns), ahead).shows(one, other), True)
        for bent in (9, 11, 0, 45, -10):
            self.assertIs(Clash(bent, turns, ahead).shows(one, other), False)
        for bent in ((1, 1), (2, 0), (2, 2), (3, 1), (1, 2), (-1, -1), (9, 6)):
            self.assertIs(Clash(time, bent, ahead).shows(one, other), False)
            self.assertIs(Clash(max(5 * bent[0], 3 + 7 * bent[1]), bent, ahead).shows(one, other), False)
        for bent in (None, 5, Point(0, 0), Thin(0, 0), Thin(2, 0), Empty([0] * 5), Empty([1] * 5)):
            self.assertIs(Clash(time, turns, bent).shows(one, other), False)
        # Later turns run at once as well, but are not the first.
        self.assertIs(Clash(45, (9, 6), ahead).shows(one, other), False)
        # With the least i, the least j.
        fast, slow = Deed(20, 0, 20), Deed(3, 1, 1)
        told = meet(fast, slow)
        self.assertEqual((told.turns, told.time), ((0, 0), 1))
        self.assertIs(Clash(4, (0, 1), told.ahead).shows(fast, slow), False)
        for pair in ((other, one), (one, Deed(7, 4, 1)), (Deed(5, 0, 1), Deed(7, 4, 1)), (Deed(10, 0, 1), other)):
            self.assertIs(found.shows(*pair), False)
        one, other = Deed(6, 0, 1), Deed(4, 1, 1)
        paper = meet(one, other).paper
        self.assertIs(Apart(paper).shows(one, other), True)
        self.assertIs(Apart(paper).shows(one, Deed(4, 2, 1)), False)
        self.assertIs(Apart(paper).shows(one, Deed(4, 1, 2)), False)
        for bent in (None, 5, Point(0, 0), Thin(0, 0), Thin(2, 0), Empty([0] * 4), Empty([1] * 4)):
            self.assertIs(Apart(bent).shows(one, other), False)


class ArrangeTest(unittest.TestCase):
    def run_apart(self, one, other, shift):
        """Whether they never run at once in any turns, by trying one round of both."""
        ring = lcm(one.period, other.period)
        both = [{(later + turn * deed.period + time) % ring for turn in range(ring // deed.period)
                 for time in range(deed.length)} for deed, later in ((one, 0), (other, shift))]
        return not both[0] & both[1]

    def test_are_apart(self):
        chance = generator(531)
        seen = {}
        for _ in range(600):
            one, other = some_deed(chance, 12), some_deed(chance, 12)
            if chance.random() < 0.5:
                one, other = Deed(one.period * 4, 3, 1), Deed(other.period * 6, -9, 1)
            shift = chance.randint(-40, 40)
            told = self.run_apart(one, other, shift)
            self.assertIs(are_apart(one, other, shift), told)
            seen[told] = seen.get(told, 0) + 1
        self.assertGreater(min(seen.values()), 60)

    def test_are_apart_in_turns_below_0(self):
        # From their starts on they never run at once, but they did ahead of them.
        one, other = Deed(10, 0, 4), Deed(10, 0, 4)
        self.assertEqual([are_apart(one, other, shift) for shift in (-4, 3, 4, 6, 7, 14, 10 ** 40 + 5)],
                         [True, False, True, True, False, True, True])
        # Where the deeds start themselves does not count.
        self.assertIs(are_apart(Deed(10, 77, 4), Deed(10, -3, 4), 4), True)
        self.assertIs(are_apart(Deed(10, 0, 4), Deed(10, 4, 4), 0), False)
        self.assertIs(are_apart(Deed(10 ** 40, 0, 5), Deed(3 * 10 ** 40, 0, 5), 7 * 10 ** 40 + 5), True)
        self.assertIs(are_apart(Deed(10 ** 40, 0, 5), Deed(10 ** 40 + 1, 0, 5), 7), False)

    def check(self, kinds):
        """arrange(kinds), held against trying all starts in order."""
        found = arrange(kinds)
        told = None
        deeds = [Deed(period, 0, length) for period, length in kinds]
        for starts in itertools.product([0], *[range(period) for period, _ in kinds[1:]]):
            if all(are_apart(deeds[i], deeds[j], starts[j] - starts[i])
                   for i in range(len(deeds)) for j in range(i)):
                told = starts
                break
        self.assertEqual(found, told)
        return found

    def test_against_trying(self):
        chance = generator(532)
        seen = {}
        for _ in range(200):
            step = chance.choice([2, 3, 4, 6])
            kinds = []
            for _ in range(chance.randint(1, 4)):
                period = step * chance.randint(1, 2)
                kinds.append((period, chance.randint(1, (period + 1) // 2)))
            found = self.check(kinds)
            seen[len(kinds), found is None] = True
        self.assertLessEqual({(1, False), (2, True), (2, False), (3, True), (3, False), (4, True)}, set(seen))

    def test_by_hand(self):
        self.assertEqual(arrange([]), ())
        self.assertEqual(arrange(()), ())
        self.assertEqual(self.check([(60, 60)]), (0,))
        self.assertEqual(self.check([(1, 1)]), (0,))
        self.assertIsNone(self.check([(1, 1), (60, 1)]))
        self.assertEqual(self.check([(10, 4), (10, 6)]), (0, 4))
        self.assertEqual(self.check(((10, 4), (10, 6))), (0, 4))
        self.assertIsNone(self.check([(10, 4), (10, 7)]))
        self.assertIsNone(self.check([(5, 1), (7, 1)]))
        self.assertEqual(self.check([(4, 1), (6, 1), (4, 1)]), (0, 1, 2))
        self.assertEqual(arrange([(5, 1)] * 5), (0, 1, 2, 3, 4))
        self.assertEqual(arrange([(60, 12)] * 5), (0, 12, 24, 36, 48))
        self.assertIsNone(arrange([(60, 12)] * 4 + [(60, 13)]))
        self.assertEqual(arrange([(60, 1), (30, 1), (20, 1), (12, 1), (60, 1)]), (0, 1, 2, 3, 4))
        self.assertIsNone(arrange([(60, 1), (60, 1), (60, 1), (2, 1), (2, 1)]))
        self.assertEqual(arrange([(60, 1), (60, 1), (60, 1), (60, 1), (2, 1)]), (0, 2, 4, 6, 1))
        self.assertIsNone(arrange([(60, 29), (60, 1), (60, 1), (60, 1), (60, 29)]))
        self.assertEqual(arrange([(60, 28), (60, 1), (60, 1), (60, 1), (60, 29)]), (0, 28, 29, 30, 31))
        self.assertEqual(arrange([(60, 11), (60, 7), (30, 5), (60, 4), (60, 3)]), (0, 11, 18, 23, 27))

    def test_errors(self):
        for kinds in (None, 5, "12", {(1, 1): 2}):
            with self.assertRaises(BadNumber) as caught:
                arrange(kinds)
            self.assertIs(caught.exception.value, kinds)
        for kinds in ([(1, 1)] * 6, [None] * 6, ((61, 1),) * 7):
            with self.assertRaises(TooLarge) as caught:
                arrange(kinds)
            self.assertEqual(caught.exception.number, len(kinds))
        for kinds, value in (
            ([None, None], None), ([[5, 1]], [5, 1]), ([(5,)], (5,)), ([(5, 1, 1)], (5, 1, 1)), (["51"], "51"),
            ([5], 5), ([(None, 0)], None), ([(5, True), (0, 0)], True), ([(0, "1")], "1"), ([(0, 0)], 0),
            ([(-4, 1)], -4), ([(5, 6)], 6), ([(5, 0), (61, 1)], 0), ([(61, 62), None], 62), ([(5, 1), None], None),
        ):
            with self.assertRaises(BadNumber) as caught:
                arrange(kinds)
            self.assertEqual(caught.exception.value, value)
            self.assertIs(type(caught.exception.value), type(value))
        for kinds, number in (([(61, 1)], 61), ([(5, 1), (99, 99), None], 99), ([(10 ** 40, 3), (0, 0)], 10 ** 40)):
            with self.assertRaises(TooLarge) as caught:
                arrange(kinds)
            self.assertEqual(caught.exception.number, number)
        self.assertEqual(arrange([(60, 59), (60, 1)]), (0, 59))


if __name__ == "__main__":
    unittest.main()
