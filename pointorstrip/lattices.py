"""Lattices: the whole multiples of two steps from a start, and what leaves given rests."""

from math import gcd

from pointorstrip.errors import BadNumber
from pointorstrip.figures import check_from, check_numbers, is_pair
from pointorstrip.judging import judge
from pointorstrip.moving import inverse
from pointorstrip.papers import Point
from pointorstrip.regions import Region


class Lattice:
    """All points start + i one + j other for whole i and j."""

    def __init__(self, one, other, start):
        for pair in (one, other, start):
            if not is_pair(pair):
                raise BadNumber(pair)
        if determinant(one, other) == 0:
            raise BadNumber(0)
        self.one = one
        self.other = other
        self.start = start

    def __eq__(self, other):
        return (
            isinstance(other, Lattice) and self.one == other.one
            and self.other == other.other and self.start == other.start
        )

    def size(self):
        """The determinant of both steps, without its sign."""
        return abs(determinant(self.one, self.other))

    def point(self, i, j):
        """The point i times the one and j times the other step behind the start."""
        x = self.start[0] + i * self.one[0] + j * self.other[0]
        y = self.start[1] + i * self.one[1] + j * self.other[1]
        return (x, y)

    def times(self, x, y):
        """The pair (i, j) of a point, None if it is not in the lattice."""
        way = (x - self.start[0], y - self.start[1])
        whole = determinant(self.one, self.other)
        i = determinant(way, self.other)
        j = determinant(self.one, way)
        if i % whole or j % whole:
            return None
        return (i // whole, j // whole)

    def pulled(self, region):
        """The region of the pairs (i, j) whose points are in a region."""
        (a, b), (c, d), (e, f) = self.one, self.other, self.start
        return Region([
            (p * a + q * b, p * c + q * d, r - p * e - q * f) for p, q, r in region.rows
        ])


def determinant(one, other):
    """The determinant of two pairs."""
    return one[0] * other[1] - one[1] * other[0]


def judge_within(region, lattice):
    """The pair of what judge tells of the pulled region, and the lattice's point or None."""
    found = judge(lattice.pulled(region))
    if isinstance(found, Point):
        return (found, lattice.point(found.x, found.y))
    return (found, None)


def check_rest(pair):
    """BadNumber if one of a pair (rest, number) is no number, or the number is below 1."""
    check_numbers(pair)
    check_from(1, pair[1])


def congruent(rests):
    """The Lattice of the points whose x leaves the one, and whose y the other of two rests."""
    one, other = rests
    check_rest(one)
    check_rest(other)
    return Lattice((one[1], 0), (0, other[1]), (one[0], other[0]))


def meeting(one, other):
    """The least number from 0 on that leaves both rests, and the least common multiple.

    None if none leaves both.
    """
    check_rest(one)
    check_rest(other)
    rest, number = one
    common = gcd(number, other[1])
    way = other[0] - rest
    if way % common:
        return None
    # All parted by the common divisor, the one number has a number that undoes it by the other.
    parts = other[1] // common
    steps = way // common * inverse(number // common, parts)
    both = number * parts
    return ((rest + steps * number) % both, both)
