"""Ticks spread over slots ([23], [24])."""

import unittest

from pointorstrip.agreeing import Agree, agree
from pointorstrip.errors import BadNumber, TooLarge
from pointorstrip.papers import Empty, Point, Thin
from pointorstrip.rounded import Line
from pointorstrip.spreads import Shared, Spread, Unshared, shares, spread_of
from trying import check_equality, generator


def spreads(most):
    """All spreads of at most so many slots, by slots, ticks and ahead."""
    return [Spread(ticks, slots, ahead) for slots in range(1, most + 1)
            for ticks in range(1, slots + 1) for ahead in range(slots)]


def ticks_of(spread, first, last):
    """What a spread's slots have, as the document tells it."""
    def number(i):
        return (spread.ticks * i + spread.ahead) // spread.slots
    return [int(number(i + 1) > number(i)) for i in range(first, last)]


class SpreadTest(unittest.TestCase):
    def test_all_small_ones(self):
        for spread in spreads(7):
            told = ticks_of(spread, -20, 40)
            self.assertEqual([spread.has(slot) for slot in range(-20, 40)],
                             [tick == 1 for tick in told])
            self.assertIs(type(spread.has(0)), bool)
            for first in (-20, -7, -1, 0, 3):
                for last in range(first, 40, 3):
                    self.assertEqual(spread.many(first, last), sum(told[first + 20:last + 20]))
            line = spread.line()
            self.assertEqual(line, Line(spread.ticks, spread.ahead, spread.slots))
            self.assertEqual(line.at(0), 0)
            places = spread.places()
            self.assertIsInstance(places, Line)
            slots = [slot for slot in range(0, 40) if told[slot + 20]]
            self.assertEqual([places.at(k) for k in range(len(slots))], slots)
            under = [slot for slot in range(-1, -21, -1) if told[slot + 20]]
            self.assertEqual([places.at(-k - 1) for k in range(len(under))], under)

    def test_by_hand(self):
        spread = Spread(3, 8, 0)
        self.assertEqual([slot for slot in range(16) if spread.has(slot)], [2, 5, 7, 10, 13, 15])
        self.assertEqual(spread.many(0, 8), 3)
        self.assertEqual(spread.many(-8, 16), 9)
        self.assertEqual(spread.many(5, 5), 0)
        full = Spread(5, 5, 3)
        self.assertTrue(all(full.has(slot) for slot in range(-20, 20)))
        self.assertEqual(full.many(-7, 13), 20)
        self.assertEqual([full.places().at(k) for k in range(-3, 4)], list(range(-3, 4)))
        one = Spread(1, 1, 0)
        self.assertTrue(one.has(-1) and one.has(0))
        long = 10 ** 300
        slots = 3 * long
        spread = Spread(long, slots, slots - 1)
        self.assertEqual([spread.has(slot) for slot in (-2, -1, 0, 1, 2, 3)],
                         [False, False, True, False, False, True])
        self.assertEqual(spread.many(0, 30 * slots), 30 * long)
        self.assertEqual(spread.places().at(long), slots)

    def test_errors(self):
        for ticks, slots, ahead, value in (
            (None, "slots", 0, None), (1, "slots", None, "slots"), (1, 2, None, None),
            (True, 2, 0, True), (1, True, 0, True), (1, 2, False, False), (1.0, 2, 0, 1.0),
            # Numbers all, so ticks comes first.
            (0, 5, 9, 0), (-1, 5, -1, -1), (6, 5, 5, 6), (1, 0, 0, 1), (0, 0, 7, 0), (1, -5, 3, 1),
            (1, 5, 5, 5), (5, 5, -1, -1), (1, 1, 1, 1), (2, 3, 10 ** 50, 10 ** 50),
            # What is no number comes ahead of numbers out of their bounds.
            (9, 5, "ahead", "ahead"), (0, None, 0, None),
        ):
            with self.assertRaises(BadNumber) as caught:
                Spread(ticks, slots, ahead)
            self.assertEqual(caught.exception.value, value)
            self.assertIs(type(caught.exception.value), type(value))
        for ticks, slots, ahead in ((1, 1, 0), (5, 5, 4), (1, 5, 0), (4, 5, 4)):
            spread = Spread(ticks, slots, ahead)
            self.assertEqual((spread.ticks, spread.slots, spread.ahead), (ticks, slots, ahead))

    def test_equality(self):
        check_equality(self, Spread, [2, 5, 3], [3, 6, 4])
        self.assertNotEqual(Spread(1, 2, 0), Spread(2, 4, 0))


class SharesTest(unittest.TestCase):
    def check(self, one, other):
        """shares(one, other), held against what the document says of it."""
        found = shares(one, other)
        self.assertIs(found.shows(one, other), True)
        self.assertIs(bool(found), isinstance(found, Shared))
        period = one.slots * other.slots
        told = [p + q for p, q in zip(ticks_of(one, 0, period), ticks_of(other, 0, period))]
        unlike = [slot for slot in range(period) if told[slot] != 1]
        if isinstance(found, Shared):
            self.assertEqual(unlike, [])
            self.assertIsInstance(found.agreed, Agree)
            slots, ticks, ahead = other.slots, other.ticks, other.ahead
            line = Line(slots - ticks, slots - 1 - ahead, slots)
            self.assertIs(found.agreed.shows(one.line(), line, 0, None), True)
        else:
            self.assertIsInstance(found, Unshared)
            self.assertEqual((found.slot, found.many), (unlike[0], told[unlike[0]]))
        return found

    def test_all_small_ones(self):
        made = spreads(5)
        told = [0, 0]
        for one in made:
            for other in made:
                told[bool(self.check(one, other))] += 1
        self.assertGreater(min(told), 30)

    def test_by_hand(self):
        # Three of eight slots, and the other five.
        self.assertTrue(self.check(Spread(3, 8, 0), Spread(5, 8, 7)))
        self.assertTrue(self.check(Spread(5, 8, 7), Spread(3, 8, 0)))
        self.assertTrue(self.check(Spread(6, 16, 1), Spread(5, 8, 7)))
        near = self.check(Spread(3, 8, 0), Spread(5, 8, 6))
        self.assertEqual((near.slot, near.many), (4, 0))
        far = shares(Spread(10 ** 20, 3 * 10 ** 20 + 1, 0), Spread(2, 3, 2))
        self.assertEqual((far.slot, far.many), (2, 0))
        far = shares(Spread(10 ** 20 + 1, 3 * 10 ** 20, 0), Spread(2, 3, 2))
        self.assertGreater(far.slot, 10 ** 19)
        self.assertEqual(far.many, 2)
        self.assertIs(far.shows(Spread(10 ** 20 + 1, 3 * 10 ** 20, 0), Spread(2, 3, 2)), True)
        # Ticks in all slots leave none for the other one.
        full = self.check(Spread(4, 4, 0), Spread(1, 9, 0))
        self.assertEqual((full.slot, full.many), (8, 2))
        long = 10 ** 60
        self.assertTrue(shares(Spread(1, long, 0), Spread(long - 1, long, long - 1)))

    def test_shows(self):
        one, other = Spread(3, 8, 0), Spread(5, 8, 7)
        found = shares(one, other)
        first, last = found.agreed.first, found.agreed.last
        self.assertIs(Shared(Agree(first, last)).shows(one, other), True)
        for agreed in (
            None, Thin(1, 0), Agree(None, last), Agree(first, None), Agree(Point(0, 0), last),
            Agree(Thin(0, 0), last), Agree(first, Empty([1, 1, 1])), Shared(found.agreed),
            agree(Line(0, 0, 1), Line(0, 0, 1), None, None),
        ):
            self.assertIs(Shared(agreed).shows(one, other), False)
        for pair in ((one, Spread(5, 8, 6)), (Spread(3, 8, 1), other), (one, one), (other, other)):
            self.assertIs(found.shows(*pair), False)
        # An Agree for a range that has an end.
        line = Line(3, 0, 8)
        self.assertIs(Shared(agree(line, line, 0, 99)).shows(one, other), False)

    def test_unshared_shows(self):
        one, other = Spread(3, 8, 0), Spread(3, 5, 4)
        self.assertEqual(ticks_of(one, 0, 10), [0, 0, 1, 0, 0, 1, 0, 1, 0, 0])
        self.assertEqual(ticks_of(other, 0, 10), [1, 1, 0, 1, 0, 1, 1, 0, 1, 0])
        self.assertEqual(shares(one, other), Unshared(4, 0))
        self.assertIs(Unshared(4, 0).shows(one, other), True)
        # Slot 5 has two, slot 9 has none; slot -1 has two.
        for slot, many in ((4, 1), (4, 2), (4, None), (3, 1), (3, 0), (3, 2), (5, 2), (5, 0), (9, 0),
                           (0, 1), (-1, 0), (-1, 2), (-1, 1), (-5, 0)):
            self.assertIs(Unshared(slot, many).shows(one, other), False, (slot, many))
        # A slot below 0 that has none does not count.
        self.assertIs(Unshared(-1, 2).shows(Spread(5, 5, 0), Spread(1, 3, 0)), False)
        self.assertIs(Unshared(-4, 2).shows(Spread(5, 5, 0), Spread(1, 3, 0)), False)
        self.assertIs(Unshared(2, 2).shows(Spread(5, 5, 0), Spread(1, 3, 0)), True)
        self.assertIs(Unshared(5, 2).shows(Spread(5, 5, 0), Spread(1, 3, 0)), False)
        self.assertIs(Unshared(10, 0).shows(Spread(3, 8, 0), Spread(5, 8, 7)), False)

    def test_equality(self):
        check_equality(self, Shared, [Agree(1, 2)], [Agree(2, 2)])
        check_equality(self, Unshared, [3, 0], [4, 2])


class SpreadOfTest(unittest.TestCase):
    def test_all_short_rows(self):
        # So many slots are enough for rows of seven.
        made = spreads(14)
        told = {}
        for many in range(8):
            for spread in made:
                told.setdefault(tuple(ticks_of(spread, 0, many)), spread)
        lacking = 0
        for many in range(8):
            for number in range(2 ** many):
                row = tuple(number >> at & 1 for at in range(many))
                found = spread_of(row)
                self.assertEqual(found, told.get(row), row)
                self.assertEqual(found, spread_of(list(row)))
                lacking += found is None
        self.assertGreater(lacking, 50)

    def test_by_hand(self):
        self.assertEqual(spread_of([]), Spread(1, 1, 0))
        self.assertEqual(spread_of(()), Spread(1, 1, 0))
        self.assertEqual(spread_of([0]), Spread(1, 2, 0))
        self.assertEqual(spread_of([1]), Spread(1, 1, 0))
        self.assertEqual(spread_of([0, 0, 1, 0, 0, 1, 0, 1]), Spread(3, 8, 0))
        self.assertIsNone(spread_of([0, 0, 1, 1]))
        self.assertEqual(spread_of([0] * 199), Spread(1, 200, 0))
        self.assertEqual(spread_of([1] * 199), Spread(1, 1, 0))
        self.assertEqual(spread_of([0] * 198 + [1]), Spread(1, 199, 0))
        self.assertEqual(spread_of([1] * 198 + [0]), Spread(198, 199, 198))

    def test_long_rows(self):
        chance = generator(241)
        for _ in range(15):
            slots = chance.randint(1, 95)
            spread = Spread(chance.randint(1, slots), slots, chance.randint(0, slots - 1))
            row = ticks_of(spread, 0, 199)
            found = spread_of(row)
            self.assertEqual(ticks_of(found, 0, 199), row)
            self.assertEqual(found.ticks * slots, spread.ticks * found.slots)
            self.assertLessEqual(found.slots, slots)
            at = chance.randrange(80)
            row[at], row[at + 100] = 1 - row[at], 1 - row[at + 100]
            self.assertIsNone(spread_of(row))

    def test_errors(self):
        for row, value in (
            ([2], 2), ([0, 1, -1, 5], -1), ([True], True), ([0, False], False), ([1.0], 1.0),
            (["1", 2], "1"), ([0] * 400 + [None], None), ([0] * 199 + [3], 3), (([],), []),
        ):
            with self.assertRaises(BadNumber) as caught:
                spread_of(row)
            self.assertEqual(caught.exception.value, value)
            self.assertIs(type(caught.exception.value), type(value))
        for row, number in (([0] * 200, 201), ([1] * 200, 201), ((0, 1) * 150, 301)):
            with self.assertRaises(TooLarge) as caught:
                spread_of(row)
            self.assertEqual(caught.exception.number, number)


if __name__ == "__main__":
    unittest.main()
