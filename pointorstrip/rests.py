"""The rests of n i + b by m: the least and the greatest, the first, how many, and their gaps."""

from math import gcd

from pointorstrip.counting import total
from pointorstrip.errors import BadNumber
from pointorstrip.figures import check_between, check_from, check_numbers
from pointorstrip.leasts import first_of, least_of
from pointorstrip.papers import refutes
from pointorstrip.regions import Region


class Rests:
    """The rests of n i + b by m, from 0 below m, for i from 0 below many."""

    def __init__(self, n, b, m, many):
        check_numbers([n, b, m, many])
        check_from(1, m)
        check_from(1, many)
        self.n = n
        self.b = b
        self.m = m
        self.many = many

    def __eq__(self, other):
        return (
            isinstance(other, Rests) and self.n == other.n and self.b == other.b
            and self.m == other.m and self.many == other.many
        )

    def at(self, i):
        """The rest at any i."""
        return (self.n * i + self.b) % self.m

    def turned(self):
        """The Rests that are m - 1 less these."""
        return Rests(-self.n, -self.b - 1, self.m, self.many)


class LeastRest:
    """The least of some rests, an i that has it, and why none is less."""

    def __init__(self, value, i, against):
        self.value = value
        self.i = i
        self.against = against

    def __eq__(self, other):
        return (
            isinstance(other, LeastRest) and self.value == other.value
            and self.i == other.i and self.against == other.against
        )

    def shows(self, rests):
        """Whether it is so."""
        if self.i < 0 or self.i >= rests.many or rests.at(self.i) != self.value:
            return False
        less = (rests.n, -rests.m, self.value - 1 - rests.b)
        return refutes(self.against, Region(pair_rows(rests) + [less]))


def pair_rows(rests):
    """The rows of the pairs (i, y) with n i + b not below y m, i being one of the rests'."""
    return [(-1, 0, 0), (1, 0, rests.many - 1), (-rests.n, rests.m, rests.b)]


def least_rest(rests):
    """The LeastRest of some rests."""
    found = least_of(pair_rows(rests), rests.n, -rests.m)
    return LeastRest(found.value + rests.b, found.x, found.against)


def greatest_rest(rests):
    """The pair of the greatest rest and the LeastRest of the turned ones, which shows it."""
    told = least_rest(rests.turned())
    return (rests.m - 1 - told.value, told)


def check_ends(rests, low, high):
    """BadNumber for the first end that is no rest, then for a high below low."""
    check_between(0, rests.m - 1, low)
    check_between(0, rests.m - 1, high)
    if high < low:
        raise BadNumber(high)


def count_rests(rests, low, high):
    """For how many i the rest is from low to high."""
    check_ends(rests, low, high)
    # Each such i has just one multiple of m from n i + b - high to n i + b - low.
    up_to = total(rests.n, rests.b - low, rests.m, rests.many)
    return up_to - total(rests.n, rests.b - high - 1, rests.m, rests.many)


def first_rest(rests, low, high):
    """The First of all i from 0 on whose rest is from low to high; a paper if there is none."""
    check_ends(rests, low, high)
    return first_of([
        (-1, 0, 0), (-rests.n, rests.m, rests.b - low), (rests.n, -rests.m, high - rests.b),
    ])


def gaps(rests):
    """The ways from one unlike rest to the next on a ring of m, and how many there are of each."""
    step = gcd(rests.n, rests.m)
    if rests.many * step >= rests.m:
        return {step: rests.m // step}
    if rests.many == 1:
        return {rests.m: 1}
    # What lies behind a rest next is as many turns off as the least way from any rest to a later
    # one, or to an earlier one, or both of these one after the other: no rest lies between.
    ways = Rests(rests.n, rests.n, rests.m, rests.many - 1)
    later = least_rest(ways)
    most, earlier = greatest_rest(ways)
    up, down = later.i + 1, earlier.i + 1
    there, back = later.value, rests.m - most
    found = {}
    for way, many in (
        (there, rests.many - up), (back, rests.many - down), (there + back, up + down - rests.many),
    ):
        if many > 0:
            found[way] = found.get(way, 0) + many
    return {way: found[way] for way in sorted(found)}
