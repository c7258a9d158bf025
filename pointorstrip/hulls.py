"""The corners of the hull of a region's whole points, and why nothing lies outside of it."""

from math import gcd

from pointorstrip.deciding import decide, ways
from pointorstrip.figures import check_size
from pointorstrip.leasts import lowest
from pointorstrip.outlines import column
from pointorstrip.papers import Endless, refutes
from pointorstrip.regions import beyond

MOST_ROWS = 20
MOST_FIGURES = 12


class Hull:
    """The corners of the hull of the whole points, round to the left, the least one first.

    For each of its sides a paper shows that the region has no whole point beyond.
    """

    def __init__(self, corners, papers):
        self.corners = tuple(corners)
        self.papers = tuple(papers)

    def __eq__(self, other):
        return (
            isinstance(other, Hull) and self.corners == other.corners
            and self.papers == other.papers
        )

    def shows(self, region):
        """Whether it is so."""
        if not self.corners or round_left(self.corners) != self.corners:
            return False
        for x, y in self.corners:
            if not region.has(x, y):
                return False
        rows = sides(self.corners)
        if len(rows) != len(self.papers):
            return False
        for row, paper in zip(rows, self.papers):
            if not refutes(paper, region.with_rows([beyond(row)])):
                return False
        return True


def side(start, end):
    """The row of the points on the line from start to end and to the left of it."""
    d = end[0] - start[0]
    e = end[1] - start[1]
    common = gcd(d, e)
    d = d // common
    e = e // common
    return (e, -d, e * start[0] - d * start[1])


def sides(corners):
    """The rows that hold exactly in the hull of these corners, which go round to the left."""
    if len(corners) == 1:
        p, q = corners[0]
        return [(1, 0, p), (-1, 0, -p), (0, 1, q), (0, -1, -q)]
    rows = [side(corners[at - 1], corners[at]) for at in range(1, len(corners))]
    rows.append(side(corners[-1], corners[0]))
    if len(corners) == 2:
        p, q = corners[0]
        r, s = corners[1]
        e, d = rows[0][0], -rows[0][1]
        rows = rows + [(d, e, d * r + e * s), (-d, -e, -d * p - e * q)]
    return rows


def across(start, end, point):
    """Twice the area of a triangle, above 0 if it goes round to the left."""
    left = (end[0] - start[0]) * (point[1] - start[1])
    return left - (end[1] - start[1]) * (point[0] - start[0])


def under_chain(points):
    """The corners of the hull of ascending points on its way from the first to the last one."""
    chain = []
    for point in points:
        while len(chain) > 1 and across(chain[-2], chain[-1], point) <= 0:
            chain.pop()
        chain.append(point)
    return chain


def round_left(points):
    """The tuple of the corners of the hull of points, round to the left, the least one first."""
    ascending = sorted(set(points))
    if len(ascending) < 2:
        return tuple(ascending)
    there = under_chain(ascending)
    back = under_chain(ascending[::-1])
    return tuple(there[:-1] + back[:-1])


def hull(region):
    """A Hull; an Endless for whole points without end; a Thin or an Empty if there are none."""
    check_size(region.rows, [], MOST_ROWS, MOST_FIGURES)
    rows = list(region.rows)
    found = decide(rows)
    if not found:
        return found
    endless = ways(rows)
    if endless:
        d, e = endless[0]
        return Endless(found.x, found.y, d, e)
    return hull_of(rows)


def hull_of(rows):
    """The Hull of rows that have whole points, but not without end."""
    x = lowest(rows, 1, 0).x
    low, _ = column(rows, x)
    start = (x, low[0])
    x = lowest(rows, -1, 0).x
    _, high = column(rows, x)
    end = (x, high[0])
    papers = {}
    points = [start]
    if start != end:
        points = way_round(rows, start, end, papers) + way_round(rows, end, start, papers)
    corners = round_left(points)
    for row in sides(corners):
        if row not in papers:
            papers[row] = decide(rows + [beyond(row)])
    return Hull(corners, [papers[row] for row in sides(corners)])


def way_round(rows, start, end, papers):
    """The points behind the start up to the end with no whole point of the rows beyond them.

    For each row from one to the next the papers get the one that shows it.
    """
    points = []
    here = start
    ahead = [end]
    while ahead:
        row = side(here, ahead[-1])
        out = beyond(row)
        found = lowest(rows + [out], out[0], out[1])
        if found:
            ahead.append((found.x, found.y))
        else:
            papers[row] = found
            here = ahead.pop()
            points.append(here)
    return points
