"""Hulls of whole corners cut into the smallest triangles, and points as sums of their points."""

from pointorstrip.corners import are_corners, check_corners, twice_area
from pointorstrip.counting import count_of
from pointorstrip.errors import BadNumber, TooLarge
from pointorstrip.figures import check_between, is_pair
from pointorstrip.hulls import across, sides
from pointorstrip.outlines import column
from pointorstrip.regions import Region

MOST_POINTS = 150
MOST_WIDE = 2000
MOST_TIMES = 1000


class Cut:
    """Triangles of area 1 / 2, round to the left, that make up a hull side by side."""

    def __init__(self, triangles):
        self.triangles = tuple(triangles)

    def __eq__(self, other):
        return isinstance(other, Cut) and self.triangles == other.triangles

    def shows(self, corners):
        """Whether it is so."""
        if not are_corners(corners) or len(self.triangles) != twice_area(corners):
            return False
        rows = sides(corners)
        ways = {}
        for triangle in self.triangles:
            if not is_smallest(triangle) or not lies_in(triangle, rows):
                return False
            for way in ways_of(triangle):
                ways[way] = True
        # If there is one beside each way but those on the border, all of the hull is in some; and
        # as they have its area in all, nothing is in two.
        for start, end in list(ways):
            if (end, start) not in ways and not on_one_side(start, end, rows):
                return False
        return True


def is_smallest(triangle):
    """Whether these are three points round to the left with an area of 1 / 2."""
    return len(triangle) == 3 and across(triangle[0], triangle[1], triangle[2]) == 1


def lies_in(triangle, rows):
    """Whether all points of a triangle are in the region of the rows."""
    region = Region(rows)
    for x, y in triangle:
        if not region.has(x, y):
            return False
    return True


def ways_of(triangle):
    """The ways from each point of a triangle to the one behind it."""
    one, other, last = triangle
    return [(one, other), (other, last), (last, one)]


def on_one_side(start, end, rows):
    """Whether both points are on the border of one row."""
    for a, b, c in rows:
        if a * start[0] + b * start[1] == c and a * end[0] + b * end[1] == c:
            return True
    return False


def check_hull(corners):
    """BadNumber for what are no corners; then TooLarge for too many points, or a wide hull."""
    check_corners(corners)
    many = count_of(sides(corners))
    if many > MOST_POINTS:
        raise TooLarge(many)
    wide = max(corners)[0] - min(corners)[0]
    if wide > MOST_WIDE:
        raise TooLarge(wide)


def points_within(corners):
    """The whole points of the hull, ascending."""
    rows = sides(corners)
    points = []
    for x in range(min(corners)[0], max(corners)[0] + 1):
        low, high = column(rows, x)
        points.extend([(x, y) for y in range(low[0], high[0] + 1)])
    return points


def cut(corners):
    """The Cut of the hull of the corners."""
    check_hull(corners)
    return Cut(triangles_of(points_within(corners)))


def triangles_of(points):
    """The triangles between ascending points, each of which is one's corner."""
    # Each point, as it comes, is joined to all steps of the border of those ahead that it sees;
    # no other one can be in between, as the points on the border stay there.
    triangles = []
    under = []
    over = []
    for point in points:
        while len(under) > 1 and across(under[-2], under[-1], point) < 0:
            triangles.append((under[-2], point, under[-1]))
            under.pop()
        while len(over) > 1 and across(over[-2], over[-1], point) > 0:
            triangles.append((over[-2], over[-1], point))
            over.pop()
        under.append(point)
        over.append(point)
    return triangles


def as_sum(corners, times, point):
    """The ascending tuple of so many points of the hull that add up to the point, or None."""
    check_hull(corners)
    check_between(1, MOST_TIMES, times)
    if not is_pair(point):
        raise BadNumber(point)
    for triangle in triangles_of(points_within(corners)):
        shares = shares_of(triangle, times, point)
        if min(shares) >= 0:
            # So many times the triangle has the point.
            found = []
            for corner, many in zip(triangle, shares):
                found = found + [corner] * many
            return tuple(sorted(found))
    return None


def shares_of(triangle, times, point):
    """How often each point of a triangle is taken, so many in all, to add up to a point."""
    start, one, other = triangle
    # As the triangle's area is 1 / 2, these are whole.
    to = (point[0] - (times - 1) * start[0], point[1] - (times - 1) * start[1])
    left = across(start, to, other)
    right = across(start, one, to)
    return (times - left - right, left, right)
