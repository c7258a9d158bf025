"""Evidence about a region: a whole point in it, or why there is none."""

from math import gcd

from pointorstrip.moving import turn_to
from pointorstrip.outlines import Outline, column, y_of


class Point:
    """The whole point (x, y) is in the region."""

    def __init__(self, x, y):
        self.x = x
        self.y = y

    def __bool__(self):
        return True

    def __eq__(self, other):
        return isinstance(other, Point) and self.x == other.x and self.y == other.y

    def shows(self, region):
        """Whether it is so."""
        return region.has(self.x, self.y)


class Endless:
    """The whole point (x, y) is in the region, with all from there on in the direction (d, e)."""

    def __init__(self, x, y, d, e):
        self.x = x
        self.y = y
        self.d = d
        self.e = e

    def __bool__(self):
        return True

    def __eq__(self, other):
        return (
            isinstance(other, Endless) and self.x == other.x and self.y == other.y
            and self.d == other.d and self.e == other.e
        )

    def shows(self, region):
        """Whether it is so."""
        if (self.d, self.e) == (0, 0) or not region.has(self.x, self.y):
            return False
        return goes_on(region.rows, self.d, self.e)


class Empty:
    """The rows of the region, each times its weight, add up to (0, 0, c) with c below 0."""

    def __init__(self, weights):
        self.weights = tuple(weights)

    def __bool__(self):
        return False

    def __eq__(self, other):
        return isinstance(other, Empty) and self.weights == other.weights

    def shows(self, region):
        """Whether it is so, with one weight for each row, at most three of them above 0."""
        if len(self.weights) != len(region.rows):
            return False
        used = [weight for weight in self.weights if weight != 0]
        if len(used) > 3 or min(used, default=0) < 0:
            return False
        sums = [0, 0, 0]
        for weight, row in zip(self.weights, region.rows):
            for at in range(3):
                sums[at] = sums[at] + weight * row[at]
        return sums[0] == 0 and sums[1] == 0 and sums[2] < 0


class Thin:
    """At most four whole values of u x + v y are within the region, none at a whole point of it."""

    def __init__(self, u, v):
        self.u = u
        self.v = v

    def __bool__(self):
        return False

    def __eq__(self, other):
        return isinstance(other, Thin) and self.u == other.u and self.v == other.v

    def shows(self, region):
        """Whether it is so, u and v have no common divisor and the region is not empty."""
        if gcd(self.u, self.v) != 1:
            return False
        rows = turn_to(self.u, self.v).rows_of(region.rows)
        outline = Outline(rows)
        if outline.weights is not None or outline.low is None or outline.high is None:
            return False
        first, last = outline.whole_ends()
        if last - first > 3:
            return False
        for value in range(first, last + 1):
            low, high = column(rows, value)
            if y_of(low, high) is not None:
                return False
        return True


def goes_on(rows, d, e):
    """Whether a d + b e is at most 0 for all rows."""
    for a, b, _ in rows:
        if a * d + b * e > 0:
            return False
    return True


def refutes(paper, region):
    """Whether this is a Thin or an Empty that shows for the region."""
    return isinstance(paper, (Thin, Empty)) and paper.shows(region)
