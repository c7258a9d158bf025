"""Calendars ([61], [62])."""

import unittest

from pointorstrip.calendars import Calendar, same_weekdays
from pointorstrip.errors import BadNumber, TooLarge
from pointorstrip.rounded import Line
from pointorstrip.shortcuts import Shortcut
from pointorstrip.spreads import Spread
from trying import check_equality, generator

# From March on, with a day more each fourth year, in the year that ends with its February.
JULIAN = Calendar((31, 30, 31, 30, 31, 31, 30, 31, 30, 31, 31, 28), Spread(1, 4, 0))
# Months of 30 and 29 days, with a day more in 11 of 30 years.
ISLAMIC = Calendar([30, 29] * 6, Spread(11, 30, 3))
# Twelve months of 30 days, and then five days or six.
COPTIC = Calendar([30] * 12 + [5], Spread(1, 4, 0))
SINGLE = Calendar([7], Spread(2, 3, 1))
# No line has the days ahead of these.
UNEVEN = Calendar([3, 9, 1, 40, 2], Spread(3, 7, 6))


def some_calendar(chance):
    slots = chance.randint(1, 12)
    ticks = chance.randint(1, slots)
    if chance.random() < 0.6:
        a, m, b = chance.randint(1, 60), chance.randint(1, 9), chance.randint(0, 8)
        line = Line(a + m, b, m)
        lengths = [line.at(x + 1) - line.at(x) for x in range(chance.randint(1, 14))]
    else:
        lengths = [chance.randint(1, 12) for _ in range(chance.randint(1, 6))]
    return Calendar(lengths, Spread(ticks, slots, chance.randrange(slots)))


def days_of(calendar, first, last):
    """All dates of the years from first below last, by going day by day."""
    for year in range(first, last):
        for month, length in enumerate(calendar.lengths):
            long = calendar.spread.has(year) and month == len(calendar.lengths) - 1
            for day in range(length + (1 if long else 0)):
                yield (year, month, day)


class DaysTest(unittest.TestCase):
    def check_days(self, calendar, years):
        dates = list(days_of(calendar, -years, years))
        zero = dates.index((0, 0, 0))
        for at, date in enumerate(dates):
            self.assertEqual(calendar.number(*date), at - zero)
            self.assertEqual(calendar.date(at - zero), date)
            self.assertIs(calendar.is_date(*date), True)
        for year in range(-years, years):
            for month in range(len(calendar.lengths)):
                days = [day for y, m, day in dates if (y, m) == (year, month)] if years < 9 else None
                if days is not None:
                    self.assertEqual(calendar.days_in(year, month), len(days))
                self.assertIs(calendar.is_date(year, month, calendar.days_in(year, month)), False)
                self.assertIs(calendar.is_date(year, month, -1), False)
            self.assertIs(calendar.is_long(year), calendar.spread.has(year))

    def test_day_by_day(self):
        for calendar in (JULIAN, ISLAMIC, COPTIC):
            self.check_days(calendar, 40)
        self.check_days(SINGLE, 200)
        self.check_days(UNEVEN, 60)
        chance = generator(611)
        for _ in range(60):
            self.check_days(some_calendar(chance), chance.choice([3, 8, 15]))

    def test_known_calendars(self):
        self.assertEqual([year for year in range(1, 31) if ISLAMIC.is_long(year)],
                         [2, 5, 7, 10, 13, 16, 18, 21, 24, 26, 29])
        self.assertEqual(ISLAMIC.short(), 354)
        self.assertEqual([ISLAMIC.days_in(year, 11) for year in (1, 2)], [29, 30])
        # The February of 1900 ends the year that begins in March 1899.
        self.assertEqual([year for year in range(1892, 1908) if JULIAN.is_long(year)],
                         [1895, 1899, 1903, 1907])
        self.assertEqual(JULIAN.short(), 365)
        self.assertEqual([JULIAN.days_in(1899, month) for month in (0, 1, 10, 11)], [31, 30, 31, 29])
        self.assertEqual([JULIAN.days_in(1900, month) for month in (0, 1, 10, 11)], [31, 30, 31, 28])
        self.assertEqual(JULIAN.number(1, 0, 0), 365)
        self.assertEqual(JULIAN.number(3, 11, 28), 4 * 365)
        self.assertEqual(JULIAN.date(4 * 365), (3, 11, 28))
        self.assertEqual(JULIAN.date(4 * 365 + 1), (4, 0, 0))
        self.assertEqual(JULIAN.date(-1), (-1, 11, 28))
        self.assertEqual(COPTIC.days_in(3, 12), 6)
        most = 10 ** 40
        self.assertEqual(JULIAN.date(1461 * most), (4 * most, 0, 0))
        self.assertEqual(JULIAN.number(-4 * most, 0, 0), -1461 * most)

    def test_the_day_more(self):
        for calendar, year in ((JULIAN, 3), (ISLAMIC, -1), (SINGLE, 0), (UNEVEN, 0)):
            last = len(calendar.lengths) - 1
            self.assertTrue(calendar.is_long(year))
            day = calendar.lengths[-1]
            self.assertIs(calendar.is_date(year, last, day), True)
            self.assertIs(calendar.is_date(year, last, day + 1), False)
            self.assertEqual(calendar.date(calendar.number(year, last, day)), (year, last, day))
            self.assertEqual(calendar.number(year + 1, 0, 0), calendar.number(year, last, day) + 1)
            if last:
                self.assertIs(calendar.is_date(year, 0, calendar.lengths[0]), False)

    def test_is_date_of_anything(self):
        for date in (
            (None, 0, 0), (0, None, 0), (0, 0, None), (True, 0, 0), (0, False, 0), (0, 0, True), (0.0, 0, 0),
            (0, "0", 0), (0, 0, [0]), ((0,), 0, 0), (0, 12, 0), (0, -1, 0), (0, 0, 31), (0, 0, -1), (0, 11, 28),
            (3, 11, 29), ({}, {}, {}),
        ):
            self.assertIs(JULIAN.is_date(*date), False)
            with self.assertRaises(BadNumber) as caught:
                JULIAN.number(*date)
            self.assertEqual(caught.exception.value, date)
            self.assertIs(type(caught.exception.value), tuple)
        for date in ((0, 0, 30), (10 ** 40, 11, 27), (-10 ** 40, 0, 0), (3, 11, 28)):
            self.assertIs(JULIAN.is_date(*date), True)

    def test_weekdays(self):
        for number in (-15, -1, 0, 6, 7, 10 ** 40):
            self.assertEqual(JULIAN.weekday(number, 7), number % 7)
            self.assertEqual(JULIAN.weekday(number, 1), 0)

    def test_errors(self):
        fine = Spread(1, 4, 0)
        for lengths in (None, 5, "12", {30: 1}):
            for spread in (fine, None):
                with self.assertRaises(BadNumber) as caught:
                    Calendar(lengths, spread)
                self.assertIs(caught.exception.value, lengths)
        for lengths, value in (
            ([30, None], None), ([0] * 101, 0), ([1001], 1001), ([30, True, 0], True), ([1.0], 1.0), ((30, -1), -1),
            ([30] * 101 + ["x"], "x"),
        ):
            for spread in (fine, None):
                with self.assertRaises(BadNumber) as caught:
                    Calendar(lengths, spread)
                self.assertEqual(caught.exception.value, value)
                self.assertIs(type(caught.exception.value), type(value))
        for many in (0, 101, 150):
            for spread in (fine, None):
                with self.assertRaises(TooLarge) as caught:
                    Calendar([30] * many, spread)
                self.assertEqual(caught.exception.number, many)
        for spread in (None, 4, (1, 4, 0), Line(1, 0, 4)):
            with self.assertRaises(BadNumber) as caught:
                Calendar([30], spread)
            self.assertIs(caught.exception.value, spread)
        for lengths in ([1], [1000], [1000] * 100, (1,) * 100):
            self.assertEqual(Calendar(lengths, fine).lengths, tuple(lengths))
        for value in (None, True, 1.0, "1"):
            for ask in (JULIAN.date, lambda told: JULIAN.weekday(told, 0), lambda told: JULIAN.weekday(5, told),
                        lambda told: same_weekdays(JULIAN, told)):
                with self.assertRaises(BadNumber) as caught:
                    ask(value)
                self.assertIs(caught.exception.value, value)
        for week in (0, -7):
            for ask in (lambda told: JULIAN.weekday(5, told), lambda told: same_weekdays(JULIAN, told)):
                with self.assertRaises(BadNumber) as caught:
                    ask(week)
                self.assertEqual(caught.exception.value, week)

    def test_equality(self):
        check_equality(self, Calendar, [(30, 29), Spread(1, 4, 0)], [(30, 30), Spread(1, 4, 1)])
        lengths = [30, 29]
        calendar = Calendar(lengths, Spread(1, 4, 0))
        lengths.append(5)
        self.assertEqual(calendar.lengths, (30, 29))


class LinesTest(unittest.TestCase):
    def check(self, calendar, top=None):
        """The lines and shortcuts, held against what the document says; whether there is fast_month."""
        years = calendar.year_line()
        short, spread = calendar.short(), calendar.spread
        self.assertEqual(years, Line(short * spread.slots + spread.ticks, spread.ahead, spread.slots))
        for year in list(range(-5, 30)) + [10 ** 30]:
            self.assertEqual(years.at(year), calendar.number(year, 0, 0))
        top = 5 * short + 7 if top is None else top
        fast = calendar.fast_year(top)
        self.assertIsInstance(fast, Shortcut)
        self.assertIs(fast.shows(Line(years.m, years.m - years.b - 1, years.a), top), True)
        for number in list(range(min(top, 3000) + 1)) + [top // 2, top - 1, top]:
            self.assertEqual((fast.multiplier * number + fast.offset) >> fast.shift, calendar.date(number)[0])
        return self.check_months(calendar)

    def check_months(self, calendar):
        line, fast, many = calendar.month_line(), calendar.fast_month(), len(calendar.lengths)
        if line is None:
            self.assertIsNone(fast)
            return None
        ahead = [sum(calendar.lengths[:month]) for month in range(many)]
        self.assertEqual([line.at(month) for month in range(many)], ahead)
        if line.at(many) <= calendar.short():
            self.assertIsNone(fast)
            return False
        self.assertIs(fast.shows(Line(line.m, line.m - line.b - 1, line.a), calendar.short()), True)
        long = [year for year in range(calendar.spread.slots) if calendar.is_long(year)][0]
        for _, month, day in days_of(calendar, long, long + 1):
            number = ahead[month] + day
            self.assertEqual((fast.multiplier * number + fast.offset) >> fast.shift, month)
        return True

    def test_known_calendars(self):
        self.assertIs(self.check(JULIAN), True)
        line = JULIAN.month_line()
        self.assertEqual((line.a, line.b, line.m), (153, 2, 5))
        # The line of the months would begin another one on the day more of a long year.
        self.assertEqual(ISLAMIC.month_line(), Line(59, 1, 2))
        self.assertIs(self.check(ISLAMIC, 10 ** 9), False)
        self.assertIs(self.check(COPTIC, 2 ** 32 - 1), True)
        self.assertEqual(COPTIC.month_line(), Line(30, 0, 1))
        self.assertIsNone(self.check(UNEVEN))
        self.assertIsNone(UNEVEN.month_line())
        self.assertIs(self.check(JULIAN, 1), True)

    def test_a_single_month(self):
        # Its line would begin a second month on the day behind the last one of a short year.
        self.assertEqual(SINGLE.month_line(), Line(7, 0, 1))
        self.assertIs(self.check(SINGLE), False)

    def test_some_calendars(self):
        chance = generator(621)
        seen = {}
        for _ in range(120):
            told = self.check(some_calendar(chance))
            seen[told] = seen.get(told, 0) + 1
        self.assertEqual(len(seen), 3)
        self.assertGreater(min(seen.values()), 5)

    def test_a_last_month_that_is_too_long(self):
        # The line has all months begin, but would begin another one within the last one.
        calendar = Calendar([10, 10, 30], Spread(1, 4, 0))
        self.assertEqual(calendar.month_line(), Line(10, 0, 1))
        self.assertIs(self.check(calendar), False)
        self.assertIs(self.check(Calendar([10, 10, 10], Spread(1, 4, 0))), False)
        self.assertIs(self.check(Calendar([10, 10, 9], Spread(1, 4, 0))), True)

    def test_errors(self):
        for top in (0, -1, None, True, 1.0):
            with self.assertRaises(BadNumber) as caught:
                JULIAN.fast_year(top)
            self.assertIs(caught.exception.value, top)
        with self.assertRaises(TooLarge) as caught:
            JULIAN.fast_year(10 ** 30)
        self.assertEqual(caught.exception.number, 31)

    def test_same_weekdays(self):
        self.assertEqual(same_weekdays(JULIAN, 7), 28)
        self.assertEqual(same_weekdays(ISLAMIC, 7), 210)
        self.assertEqual(same_weekdays(JULIAN, 1), 4)
        chance = generator(622)
        for _ in range(100):
            calendar, week = some_calendar(chance), chance.choice([1, 7, chance.randint(1, 30)])
            years = calendar.spread.slots
            while (calendar.number(years, 0, 0) - calendar.number(0, 0, 0)) % week:
                years = years + calendar.spread.slots
            self.assertEqual(same_weekdays(calendar, week), years)
            for year in (-3, 5):
                for month in range(len(calendar.lengths)):
                    days = [calendar.number(y, month, 0) % week for y in (year, year + years)]
                    self.assertEqual(days[0], days[1])
        self.assertEqual(same_weekdays(Calendar([1], Spread(1, 10 ** 40, 0)), 10 ** 40 + 1), 10 ** 40)


if __name__ == "__main__":
    unittest.main()
