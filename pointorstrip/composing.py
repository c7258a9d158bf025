"""Lines behind lines: the one's numbers as places of the other."""

from math import gcd

from pointorstrip.errors import TooLarge
from pointorstrip.lattices import Lattice
from pointorstrip.leasts import lowest
from pointorstrip.moving import inverse
from pointorstrip.regions import Region
from pointorstrip.rounded import Line

MOST_PERIOD = 3000


class Composed:
    """The line has the numbers of two lines together; no line with its slope has a lesser b."""

    def __init__(self, line):
        self.line = line

    def __bool__(self):
        return True

    def __eq__(self, other):
        return isinstance(other, Composed) and self.line == other.line

    def shows(self, one, other):
        """Whether it is so."""
        if not isinstance(self.line, Line):
            return False
        return self.line == composed_line(one, other)


class Broken:
    """Two places, of which the one asks for a greater offset than the other one allows."""

    def __init__(self, x, y):
        self.x = x
        self.y = y

    def __bool__(self):
        return False

    def __eq__(self, other):
        return isinstance(other, Broken) and self.x == other.x and self.y == other.y

    def shows(self, one, other):
        """Whether it is so."""
        return asked(one, other, self.x) > asked(one, other, self.y) + one.m * other.m - 1


def asked(one, other, x):
    """The least offset with which a line with the slope of both together has their number at x."""
    return other.at(one.at(x)) * one.m * other.m - one.a * other.a * x


def leftovers(one, other):
    """A Lattice: its points (r, s) from 0 below both m are what both divisions leave at a place."""
    # A step of the place adds (a1, 0), one of the one's number (-m1, a2), one of the other's
    # number (0, -m2). Two steps do that make up all of these.
    across = gcd(other.a, other.m)
    times = inverse(other.a // across, other.m // across)
    along = gcd(one.a, one.m * (other.m // across))
    return Lattice((along, 0), (-one.m * times, across), (one.b, other.b))


def ends_asked(one, other):
    """The greatest and the least offset that is asked at any place."""
    lattice = leftovers(one, other)
    box = Region([(-1, 0, 0), (1, 0, one.m - 1), (0, -1, 0), (0, 1, other.m - 1)])
    rows = lattice.pulled(box).rows
    # What is asked is less by a2 times what the one leaves and m1 times what the other one does.
    u, v = [other.a * r + one.m * s for r, s in (lattice.one, lattice.other)]
    ends = []
    for sign in (1, -1):
        found = lowest(rows, sign * u, sign * v)
        ends.append(-u * found.x - v * found.y)
    return ends


def composed_line(one, other):
    """The line that has the numbers of both together, with the least b; None if there is none."""
    period = one.m * other.m
    most, least = ends_asked(one, other)
    return Line(one.a * other.a, most, period) if most - least < period else None


def compose(one, other):
    """A Composed if a line has the numbers of both together, otherwise a Broken."""
    period = one.m * other.m
    if period > MOST_PERIOD:
        raise TooLarge(period)
    line = composed_line(one, other)
    if line is not None:
        return Composed(line)
    places = {asked(one, other, x): x for x in range(period)}
    return Broken(places[max(places)], places[min(places)])


def nested(lines):
    """The line that all lines of a row are, the first one innermost; None if one breaks it."""
    found = Line(1, 0, 1)
    for line in lines:
        told = compose(found, line)
        if not told:
            return None
        found = told.line
    return found
