"""Calendars: years of months of some days, the last one a day longer in years that are spread."""

from math import gcd

from pointorstrip.errors import BadNumber, TooLarge
from pointorstrip.figures import check_between, check_from, check_numbers, is_between, is_number
from pointorstrip.rounded import Line
from pointorstrip.shortcuts import shortcut
from pointorstrip.spreads import Spread
from pointorstrip.stairs import stairs_of

MOST_MONTHS = 100
MOST_LENGTH = 1000


class Calendar:
    """Months of these lengths; the last one is a day longer in each year with a tick."""

    def __init__(self, lengths, spread):
        if not isinstance(lengths, (list, tuple)):
            raise BadNumber(lengths)
        for length in lengths:
            check_between(1, MOST_LENGTH, length)
        if len(lengths) < 1 or len(lengths) > MOST_MONTHS:
            raise TooLarge(len(lengths))
        if not isinstance(spread, Spread):
            raise BadNumber(spread)
        self.lengths = tuple(lengths)
        self.spread = spread

    def __eq__(self, other):
        return (
            isinstance(other, Calendar) and self.lengths == other.lengths
            and self.spread == other.spread
        )

    def short(self):
        """The days of a short year."""
        return sum(self.lengths)

    def is_long(self, year):
        """Whether a year has a day more."""
        return self.spread.has(year)

    def days_in(self, year, month):
        """The days of a month, from 0, of a year."""
        last = month == len(self.lengths) - 1
        return self.lengths[month] + (1 if last and self.is_long(year) else 0)

    def is_date(self, year, month, day):
        """Whether there is such a day, months and days from 0; they may be anything."""
        if not is_number(year) or not is_between(0, len(self.lengths) - 1, month):
            return False
        return is_between(0, self.days_in(year, month) - 1, day)

    def number(self, year, month, day):
        """The number of a day: 0 for (0, 0, 0), less ahead of it."""
        if not self.is_date(year, month, day):
            raise BadNumber((year, month, day))
        return self.year_line().at(year) + sum(self.lengths[:month]) + day

    def date(self, number):
        """The date (year, month, day) of the day with this number."""
        check_numbers([number])
        year = last_places(self.year_line()).at(number)
        day = number - self.year_line().at(year)
        month = 0
        while day >= self.days_in(year, month):
            day = day - self.lengths[month]
            month = month + 1
        return (year, month, day)

    def weekday(self, number, week):
        """The day of the week, from 0, of the day with this number."""
        check_numbers([number])
        check_from(1, week)
        return number % week

    def year_line(self):
        """The Line of the numbers of the first days of the years."""
        slots = self.spread.slots
        return Line(self.short() * slots + self.spread.ticks, self.spread.ahead, slots)

    def fast_year(self, top):
        """The Shortcut of the line whose number at a day is its year, up to the day top."""
        return shortcut(last_places(self.year_line()), top)

    def month_line(self):
        """The Line of the least numbers that tells the days ahead of each month; None if none does."""
        if len(self.lengths) == 1:
            return Line(self.lengths[0], 0, 1)
        days = [sum(self.lengths[:month]) for month in range(len(self.lengths))]
        found = stairs_of(days)
        return found.line if found else None

    def fast_month(self):
        """The Shortcut of the line whose number at a day of a year is its month.

        None if there is no month line, or it would begin another month behind the last one.
        """
        months = self.month_line()
        if months is None:
            return None
        line = last_places(months)
        # This is the last day of a long year.
        if line.at(self.short()) != len(self.lengths) - 1:
            return None
        return shortcut(line, self.short())


def last_places(line):
    """The Line whose number at n is the last place at which a rising line is not above n."""
    return Line(line.m, line.m - line.b - 1, line.a)


def same_weekdays(calendar, week):
    """The least number of years, whole rounds of the spread, behind which weekdays are the same."""
    check_from(1, week)
    slots = calendar.spread.slots
    days = calendar.short() * slots + calendar.spread.ticks
    return week // gcd(days, week) * slots
