"""Rows of numbers as those of a rounded line at 0, 1, 2 and so on."""

from pointorstrip.errors import BadNumber, TooLarge
from pointorstrip.figures import check_numbers, is_pair
from pointorstrip.ratios import below, simplest_between
from pointorstrip.rounded import Line

LEAST_MANY = 2
MOST_MANY = 200


class Stairs:
    """The line has a row's numbers; of all such lines it has the least m, then the least b.

    low and high are the pairs of places that tell most of the slopes of such lines.
    """

    def __init__(self, line, low, high):
        self.line = line
        self.low = low
        self.high = high

    def __bool__(self):
        return True

    def __eq__(self, other):
        return (
            isinstance(other, Stairs) and self.line == other.line
            and self.low == other.low and self.high == other.high
        )

    def shows(self, row):
        """Whether it is so."""
        line = self.line
        if not isinstance(line, Line) or not has_numbers(line, row):
            return False
        if not are_places(self.low, row) or not are_places(self.high, row):
            return False
        # The line's own slope is strictly between these bounds, as it has the row's numbers.
        low = lower_bound(row, self.low)
        high = upper_bound(row, self.high)
        if simplest_between(low, high) != (line.a, line.m):
            return False
        return line.b == least_offset(row, line.a, line.m)


class Crooked:
    """No line has a row's numbers: two pairs of places ask for slopes that exclude each other."""

    def __init__(self, low, high):
        self.low = low
        self.high = high

    def __bool__(self):
        return False

    def __eq__(self, other):
        return isinstance(other, Crooked) and self.low == other.low and self.high == other.high

    def shows(self, row):
        """Whether it is so."""
        if not are_places(self.low, row) or not are_places(self.high, row):
            return False
        return not below(lower_bound(row, self.low), upper_bound(row, self.high))


def are_places(pair, row):
    """Whether this is a pair of places in the row, the first one below the last one."""
    return is_pair(pair) and 0 <= pair[0] < pair[1] < len(row)


def has_numbers(line, row):
    """Whether the line has the row's numbers at 0, 1, 2 and so on."""
    for x, number in enumerate(row):
        if line.at(x) != number:
            return False
    return True


def lower_bound(row, pair):
    """The fraction that slopes of lines with the row's numbers are above, by a pair of places."""
    first, last = pair
    return (row[last] - row[first] - 1, last - first)


def upper_bound(row, pair):
    """The fraction that slopes of lines with the row's numbers are below, by a pair of places."""
    first, last = pair
    return (row[last] - row[first] + 1, last - first)


def least_offset(row, a, m):
    """The least b with which a line's numbers are nowhere below those of the row."""
    return max([m * number - a * x for x, number in enumerate(row)])


def stairs(row):
    """A Stairs if some rounded line has the row's numbers, otherwise a Crooked."""
    if not isinstance(row, (list, tuple)):
        raise BadNumber(row)
    check_numbers(row)
    if len(row) < LEAST_MANY or len(row) > MOST_MANY:
        raise TooLarge(len(row))
    return stairs_of(row)


def stairs_of(row):
    """As stairs, for a row of two numbers or more."""
    low = high = (0, 1)
    for last in range(1, len(row)):
        for first in range(last):
            pair = (first, last)
            if below(lower_bound(row, low), lower_bound(row, pair)):
                low = pair
            if below(upper_bound(row, pair), upper_bound(row, high)):
                high = pair
    least = lower_bound(row, low)
    greatest = upper_bound(row, high)
    if not below(least, greatest):
        return Crooked(low, high)
    a, m = simplest_between(least, greatest)
    return Stairs(Line(a, least_offset(row, a, m), m), low, high)
