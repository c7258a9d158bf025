"""Amounts that two coins pay ([31])."""

import unittest
from math import gcd

from pointorstrip.coins import Unpaid, greatest_unpaid, pay, ways_to_pay
from pointorstrip.errors import BadNumber, TooLarge
from pointorstrip.papers import Empty, Point, Thin
from trying import check_equality, refutes


def rows_of(one, other, amount):
    return [(one, other, amount), (-one, -other, -amount), (-1, 0, 0), (0, -1, 0)]


def ways(one, other, amount):
    """All points that pay an amount, by trying."""
    return [(x, (amount - one * x) // other) for x in range(0, max(amount, -1) // one + 1)
            if (amount - one * x) % other == 0]


class PayTest(unittest.TestCase):
    def check(self, one, other, amount):
        found = pay(one, other, amount)
        told = ways(one, other, amount)
        if told:
            self.assertIsInstance(found, Point)
            self.assertIn((found.x, found.y), told)
        else:
            self.assertIn(type(found), (Thin, Empty))
            self.assertTrue(refutes(found, rows_of(one, other, amount)))
        many = ways_to_pay(one, other, amount)
        self.assertEqual(many, len(told), (one, other, amount))
        self.assertIs(type(many), int)

    def test_against_trying_all(self):
        for one in range(1, 9):
            for other in range(1, 9):
                for amount in range(-9, 80):
                    self.check(one, other, amount)

    def test_by_hand(self):
        self.check(5, 7, 23)
        self.assertFalse(pay(5, 7, 23))
        self.assertTrue(pay(5, 7, 24))
        self.assertEqual(ways_to_pay(1, 1, 10), 11)
        self.assertEqual(ways_to_pay(2, 2, 7), 0)
        self.assertEqual(ways_to_pay(5, 7, 0), 1)
        self.assertEqual(ways_to_pay(5, 7, -1), 0)
        self.assertEqual(ways_to_pay(5, 7, -35), 0)
        found = pay(5, 7, 0)
        self.assertEqual((found.x, found.y), (0, 0))

    def test_long_numbers(self):
        long = 10 ** 80
        found = pay(long, long + 1, long * (long + 1) - 2 * long - 1)
        self.assertTrue(refutes(found, rows_of(long, long + 1, long * (long + 1) - 2 * long - 1)))
        found = pay(long, long + 1, long * (long + 1) - 2 * long)
        self.assertEqual(long * found.x + (long + 1) * found.y, long * (long + 1) - 2 * long)
        self.assertTrue(found.x >= 0 and found.y >= 0)
        self.assertEqual(ways_to_pay(3, 5, 15 * long), long + 1)
        self.assertEqual(ways_to_pay(1, 1, long), long + 1)

    def test_errors(self):
        for function in (pay, ways_to_pay):
            for one, other, amount, value in (
                (0, 0, None, 0), (None, 0, 1, None), (-1, 2, 3, -1), (True, 2, 3, True),
                (1.0, 2, 3, 1.0), (1, 0, None, 0), (1, "2", None, "2"), (1, -5, 3, -5),
                (1, True, 3, True), (1, 2, None, None), (1, 2, False, False), (1, 2, 3.0, 3.0),
            ):
                with self.assertRaises(BadNumber) as caught:
                    function(one, other, amount)
                self.assertIs(caught.exception.value, value)


class UnpaidTest(unittest.TestCase):
    def check(self, one, other):
        found = greatest_unpaid(one, other)
        if gcd(one, other) > 1:
            self.assertIsNone(found)
            return None
        self.assertIsInstance(found, Unpaid)
        self.assertTrue(found)
        self.assertIs(found.shows(one, other), True)
        self.assertTrue(refutes(found.against, rows_of(one, other, found.amount)))
        self.assertIs(type(found.paid), tuple)
        self.assertEqual(len(found.paid), min(one, other))
        for number, point in enumerate(found.paid):
            self.assertIsInstance(point, Point)
            self.assertTrue(point.x >= 0 and point.y >= 0)
            self.assertEqual(one * point.x + other * point.y, found.amount + 1 + number)
        return found.amount

    def test_against_trying_all(self):
        for one in range(1, 16):
            for other in range(1, 16):
                amount = self.check(one, other)
                if amount is not None:
                    self.assertEqual(ways(one, other, amount), [])
                    for more in range(amount + 1, amount + 2 * one + 2 * other):
                        self.assertNotEqual(ways(one, other, more), [])

    def test_by_hand(self):
        self.assertEqual(self.check(5, 7), 23)
        self.assertEqual(self.check(7, 5), 23)
        self.assertEqual(self.check(1, 1), -1)
        self.assertEqual(self.check(1, 9), -1)
        self.assertEqual(self.check(9, 1), -1)
        self.assertEqual(self.check(2, 3), 1)
        self.assertIsNone(self.check(6, 6))
        self.assertIsNone(self.check(6, 9))
        long = 10 ** 100 + 1
        self.assertEqual(self.check(100, long), 100 * long - long - 100)
        self.assertEqual(self.check(long, 1000), 1000 * long - long - 1000)
        self.assertEqual(self.check(999, 1000), 999 * 1000 - 1999)

    def test_shows(self):
        found = greatest_unpaid(5, 7)
        amount, against, paid = found.amount, found.against, found.paid
        self.assertIs(Unpaid(amount, against, paid).shows(5, 7), True)
        self.assertIs(Unpaid(amount, against, list(paid)).shows(5, 7), True)
        self.assertIs(Unpaid(amount, against, paid).shows(7, 5), False)
        self.assertIs(Unpaid(amount, against, paid).shows(5, 8), False)
        for other in (22, 24, 18, 25, -1, 0):
            self.assertIs(Unpaid(other, against, paid).shows(5, 7), False)
        # An amount that isn't paid, and not the greatest one.
        more = [pay(5, 7, number) for number in range(19, 24)]
        self.assertIs(Unpaid(18, pay(5, 7, 18), more).shows(5, 7), False)
        for paper in (None, Point(0, 0), Thin(2, 0), Thin(1, 0), Empty([1, 1, 0, 0]), pay(5, 7, 24)):
            self.assertIs(Unpaid(amount, paper, paid).shows(5, 7), False)
        for points in ((), paid[:4], paid + (pay(5, 7, 29),), paid[::-1], paid[1:] + paid[:1]):
            self.assertIs(Unpaid(amount, against, points).shows(5, 7), False)
        for at in range(5):
            x, y = paid[at].x, paid[at].y
            for point in (Point(x + 7, y - 5), Point(x - 7, y + 5), Point(x, y + 1), None, (x, y),
                          Thin(1, 0), against):
                bent = paid[:at] + (point,) + paid[at + 1:]
                self.assertIs(Unpaid(amount, against, bent).shows(5, 7), False)
        told = greatest_unpaid(1, 4)
        self.assertIs(Unpaid(-1, told.against, told.paid).shows(1, 4), True)
        self.assertIs(Unpaid(-2, pay(1, 4, -2), told.paid).shows(1, 4), False)
        self.assertIs(Unpaid(-2, pay(1, 4, -2), [Point(-1, 0)]).shows(1, 4), False)

    def test_shows_for_greater_coins(self):
        one, other = 1500, 1501
        amount = one * other - one - other
        paid = [pay(one, other, amount + 1 + number) for number in range(one)]
        self.assertIs(Unpaid(amount, pay(one, other, amount), paid).shows(one, other), True)
        self.assertIs(Unpaid(amount, pay(one, other, amount), paid[:1000]).shows(one, other), False)

    def test_errors(self):
        for one, other, value in (
            (0, None, 0), (None, 0, None), (True, 5, True), (5, False, False), (5, -1, -1),
            (5, 1.0, 1.0), (2000, 0, 0), (-3, 2000, -3),
        ):
            with self.assertRaises(BadNumber) as caught:
                greatest_unpaid(one, other)
            self.assertIs(caught.exception.value, value)
        for one, other, number in (
            (1001, 1002, 1001), (1002, 1001, 1001), (2000, 4000, 2000), (5000, 3000, 3000),
            (10 ** 50, 10 ** 50, 10 ** 50),
        ):
            with self.assertRaises(TooLarge) as caught:
                greatest_unpaid(one, other)
            self.assertEqual(caught.exception.number, number)
        self.assertIsNone(greatest_unpaid(1000, 5000))
        self.assertEqual(self.check(1000, 1001), 1000 * 1001 - 2001)

    def test_equality(self):
        check_equality(self, Unpaid, [3, Thin(1, 0), (Point(1, 1),)],
                       [4, Thin(0, 1), (Point(1, 2),)])
        self.assertIs(type(Unpaid(3, None, [Point(1, 1)]).paid), tuple)


if __name__ == "__main__":
    unittest.main()
