"""The least value and the first point of a region."""

from math import gcd

from pointorstrip.bases import narrow_turn, reach
from pointorstrip.deciding import decide, point_back, ways
from pointorstrip.figures import check_numbers, check_size
from pointorstrip.moving import turn_to
from pointorstrip.outlines import Outline, column, y_of
from pointorstrip.papers import Endless, Point, refutes
from pointorstrip.ratios import below, ceil_of, difference, floor_of

MOST_ROWS = 40
MOST_FIGURES = 40


class Least:
    """The least value of u x + v y at whole points of a region, such a point, and why none is less.

    The paper against shows for the region with the row (u, v, value - 1) put last.
    """

    def __init__(self, value, x, y, against):
        self.value = value
        self.x = x
        self.y = y
        self.against = against

    def __bool__(self):
        return True

    def __eq__(self, other):
        return (
            isinstance(other, Least) and self.value == other.value
            and self.x == other.x and self.y == other.y and self.against == other.against
        )

    def shows(self, region, u, v):
        """Whether it is so."""
        if u * self.x + v * self.y != self.value or not region.has(self.x, self.y):
            return False
        return refutes(self.against, region.with_rows([(u, v, self.value - 1)]))


class First:
    """The whole point of a region with the least x, of those with it the one with the least y.

    Without a least y it is the one with the greatest, without either y is 0.
    The paper against shows for the region with the row (1, 0, x - 1) put last.
    """

    def __init__(self, x, y, against):
        self.x = x
        self.y = y
        self.against = against

    def __bool__(self):
        return True

    def __eq__(self, other):
        return (
            isinstance(other, First) and self.x == other.x and self.y == other.y
            and self.against == other.against
        )

    def shows(self, region):
        """Whether it is so."""
        if not region.has(self.x, self.y):
            return False
        low, high = column(region.rows, self.x)
        if self.y != y_of(low, high):
            return False
        return refutes(self.against, region.with_rows([(1, 0, self.x - 1)]))


def least(region, u, v):
    """A Least; an Endless if there are ever lesser values; a Thin or an Empty if there is none."""
    check_numbers([u, v])
    check_size(region.rows, [u, v], MOST_ROWS, MOST_FIGURES)
    return least_of(region.rows, u, v)


def first(region):
    """A First; an Endless if there is no least x; a Thin or an Empty if there is no whole point."""
    check_size(region.rows, [], MOST_ROWS, MOST_FIGURES)
    return first_of(region.rows)


def least_of(rows, u, v):
    """As least, for rows of any number and length."""
    found = lowest(rows, u, v)
    if not isinstance(found, Point):
        return found
    value = u * found.x + v * found.y
    return Least(value, found.x, found.y, decide(list(rows) + [(u, v, value - 1)]))


def first_of(rows):
    """As first, for rows of any number and length."""
    found = lowest(rows, 1, 0)
    if not isinstance(found, Point):
        return found
    low, high = column(rows, found.x)
    return First(found.x, y_of(low, high), decide(list(rows) + [(1, 0, found.x - 1)]))


def lowest(rows, u, v):
    """A Point of the rows with the least u x + v y; an Endless, a Thin or an Empty as least has it."""
    found = decide(rows)
    if not found:
        return found
    for d, e in ways(rows):
        if u * d + v * e < 0:
            return Endless(found.x, found.y, d, e)
    common = gcd(u, v)
    if common == 0:
        return found
    turn = turn_to(u // common, v // common)
    x, _ = turn.point(found.x, found.y)
    x, y = leftmost(turn.rows_of(rows), x)
    return point_back(turn, x, y)


def leftmost(rows, known):
    """A whole point (x, y) of the rows with the least x; one is known to have this x.

    There must be a least x, for fractions too.
    """
    outline = Outline(rows)
    first_x = ceil_of(outline.low)
    if not outline.uppers or not outline.lowers:
        # Each whole column goes on for ever.
        low, high = column(rows, first_x)
        return (first_x, y_of(low, high))
    last_x = known
    while True:
        cut = list(rows) + [(1, 0, last_x)]
        points = Outline(cut).outer_points()
        turn = narrow_turn(points)
        ends = reach(points, turn.a, turn.b)
        wide = difference(ends[1], ends[0])
        if below(wide, (8, 1)):
            return leftmost_in_lines(cut, turn, ends)
        # Drawn together towards its leftmost end until it is 4 wide, the region has whole
        # points still, and lies in the region cut off at the same place.
        last_x = nearer(outline.low, last_x, wide)


def nearer(low, last_x, wide):
    """The whole part of low + (last_x - low) * 4 / wide, for fractions low and wide."""
    way = difference((last_x, 1), low)
    p = low[0] * way[1] * wide[0] + 4 * way[0] * wide[1] * low[1]
    return p // (low[1] * way[1] * wide[0])


def leftmost_in_lines(rows, turn, ends):
    """A whole point (x, y) of the rows with the least x, the turn's new x being between the ends."""
    turned = turn.rows_of(rows)
    back = turn.back()
    found = None
    for line in range(ceil_of(ends[0]), floor_of(ends[1]) + 1):
        low, high = column(turned, line)
        if low[0] > high[0]:
            continue
        # The old x changes by back.b from one point of the line to the next.
        point = back.point(line, low[0] if back.b > 0 else high[0])
        if found is None or point[0] < found[0]:
            found = point
    return found
