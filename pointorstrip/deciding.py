"""Whether rows have a whole point, for rows of any number and length."""

from math import gcd

from pointorstrip.bases import narrow_turn, reach
from pointorstrip.moving import turn_to
from pointorstrip.outlines import Outline, column, y_of
from pointorstrip.papers import Empty, Point, Thin, goes_on
from pointorstrip.ratios import ceil_of, floor_of


def decide(rows):
    """A Point, a Thin or an Empty that shows for the region of the rows."""
    outline = Outline(rows)
    if outline.weights is not None:
        return Empty(outline.weights)
    if outline.is_bounded():
        return decide_bounded(rows, outline)
    return decide_unbounded(rows)


def decide_bounded(rows, outline):
    """As decide, for rows that have points and an end on all sides."""
    points = outline.outer_points()
    turn = narrow_turn(points)
    least, greatest = reach(points, turn.a, turn.b)
    first = ceil_of(least)
    # If the region is 4 wide or more in all directions, its longest column has at least half this
    # length. Either that is less than 3 behind the least x: then a whole column beside it has a
    # length of 1. Or lengths grow on the way there, by 1 / 2 a step on the average at least, and
    # at first most: then the third whole column has. So the first four tell.
    last = min(floor_of(greatest), first + 3)
    turned = turn.rows_of(rows)
    for x in range(first, last + 1):
        low, high = column(turned, x)
        y = y_of(low, high)
        if y is not None:
            return point_back(turn, x, y)
    return Thin(turn.a, turn.b)


def point_back(turn, x, y):
    """The Point that a turn takes to (x, y)."""
    x, y = turn.back().point(x, y)
    return Point(x, y)


def ways(rows):
    """Directions in which the region of the rows goes on for ever, if it is not empty.

    All others are sums of multiples of these; none if there are none.
    """
    sloped = [(a, b) for a, b, _ in rows if (a, b) != (0, 0)]
    if not sloped:
        return [(1, 0), (0, 1), (-1, 0), (0, -1)]
    found = []
    for a, b in sloped:
        common = gcd(a, b)
        d, e = a // common, b // common
        # Along a border, and straight away from it for a half plane.
        for way in ((-e, d), (e, -d), (-d, -e)):
            if goes_on(rows, way[0], way[1]) and way not in found:
                found.append(way)
    return found


def decide_unbounded(rows):
    """As decide, for rows that have points, but not an end on all sides."""
    found = ways(rows)
    d, e = found[0]
    for way in found:
        if d * way[1] != e * way[0]:
            return point_far_off(rows, found)
    turn = turn_to(e, -d)
    turned = turn.rows_of(rows)
    first, last = Outline(turned).whole_ends()
    if first > last:
        return Thin(e, -d)
    # Each whole column within the ends goes on for ever, so it has a whole point.
    low, high = column(turned, first)
    return point_back(turn, first, y_of(low, high))


def point_far_off(rows, found):
    """A Point of rows that go on in two directions not on one line."""
    d = sum([way[0] for way in found])
    e = sum([way[1] for way in found])
    times = 0
    for a, b, c in rows:
        # Between both directions each row gets slacker at each step.
        step = -(a * d + b * e)
        if step:
            times = max(times, -(c // step))
    return Point(times * d, times * e)
