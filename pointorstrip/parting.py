"""Points that a line row parts from others, or four that show that none does."""

from itertools import combinations

from pointorstrip.errors import BadNumber, TooLarge
from pointorstrip.figures import is_pair
from pointorstrip.hulls import across
from pointorstrip.regions import is_line_row

MOST_POINTS = 12


class Parted:
    """The row holds at all points and fails at all others."""

    def __init__(self, row):
        self.row = row

    def __bool__(self):
        return True

    def __eq__(self, other):
        return isinstance(other, Parted) and self.row == other.row

    def shows(self, points, others):
        """Whether it is so."""
        if not is_line_row(self.row):
            return False
        a, b, c = self.row
        for x, y in points:
            if a * x + b * y > c:
                return False
        for x, y in others:
            if a * x + b * y <= c:
                return False
        return True


class Meeting:
    """Some points and some others, by their numbers, have one mean with these weights."""

    def __init__(self, numbers, weights, others, late):
        self.numbers = tuple(numbers)
        self.weights = tuple(weights)
        self.others = tuple(others)
        self.late = tuple(late)

    def __bool__(self):
        return False

    def __eq__(self, other):
        return (
            isinstance(other, Meeting) and self.numbers == other.numbers
            and self.weights == other.weights and self.others == other.others
            and self.late == other.late
        )

    def shows(self, points, others):
        """Whether it is so."""
        if len(self.numbers) + len(self.others) > 4:
            return False
        if not are_weighted(self.numbers, self.weights, points):
            return False
        if not are_weighted(self.others, self.late, others):
            return False
        here = weighted_sums(self.numbers, self.weights, points)
        return here == weighted_sums(self.others, self.late, others)


def are_weighted(numbers, weights, points):
    """Whether these are numbers of points, one at least, and as many weights above 0."""
    if not numbers or len(numbers) != len(weights) or min(weights) <= 0:
        return False
    return 0 <= min(numbers) and max(numbers) < len(points)


def weighted_sums(numbers, weights, points):
    """The sums of the weights, of all weighted x, and of all weighted y."""
    sums = [0, 0, 0]
    for number, weight in zip(numbers, weights):
        x, y = points[number]
        sums = [sums[0] + weight, sums[1] + weight * x, sums[2] + weight * y]
    return sums


def check_points(points):
    """BadNumber for what is no row of pairs; then TooLarge for none or too many."""
    if not isinstance(points, (list, tuple)):
        raise BadNumber(points)
    for pair in points:
        if not is_pair(pair):
            raise BadNumber(pair)
    if len(points) < 1 or len(points) > MOST_POINTS:
        raise TooLarge(len(points))


def part(points, others):
    """A Parted if a line row parts the points from all others, otherwise a Meeting."""
    check_points(points)
    check_points(others)
    for u, v in ways_apart(points, others):
        most = max([u * x + v * y for x, y in points])
        if most < min([u * x + v * y for x, y in others]):
            return Parted((u, v, most))
    return meeting_of(list(points), list(others))


def ways_apart(points, others):
    """Directions (u, v): if rows part the points from the others, one with these numbers does."""
    # All ways from a point to one of the others have a hull; it is without (0, 0) if rows part
    # both. If that hull is wide, the line of one of its sides keeps off (0, 0), and its sides go
    # along with pairs of points or of others. So it is if the hull is a stretch beside (0, 0).
    # If it is a stretch or a point in line with (0, 0), any of these ways does.
    ways = [(r - p, s - q) for p, q in points for r, s in others]
    for row in (points, others):
        for p, q in row:
            ways = ways + [(q - s, r - p) for r, s in row]
    return ways


def meeting_of(points, others):
    """A Meeting of points and others that no row parts."""
    # With as few numbers as can be, no weights but those sought are possible: so it is a point
    # that is one of the others, or between two or three of them, or the other way round, or
    # both have two that cross.
    for many in (1, 2, 3):
        for at, point in enumerate(points):
            found = mean_of(point, others, many)
            if found is not None:
                numbers, weights = found
                return Meeting((at,), (sum(weights),), numbers, weights)
        for at, point in enumerate(others):
            found = mean_of(point, points, many)
            if found is not None:
                numbers, weights = found
                return Meeting(numbers, weights, (at,), (sum(weights),))
    return crossing_of(points, others)


def mean_of(point, corners, many):
    """Numbers of so many corners, and weights above 0 by which the point is their mean, or None."""
    for numbers in combinations(range(len(corners)), many):
        weights = mean_weights(point, [corners[number] for number in numbers])
        if min(weights) > 0:
            return (numbers, weights)
    return None


def mean_weights(point, corners):
    """The weights by which a point is the mean of one, two or three corners.

    They are not all above 0 if it is not strictly between them.
    """
    if len(corners) == 1:
        return (1 if point == corners[0] else 0,)
    if len(corners) == 2:
        return stretch_weights(point, corners[0], corners[1])
    one, other, last = corners
    weights = (across(other, last, point), across(last, one, point), across(one, other, point))
    return weights if max(weights) > 0 else tuple([-weight for weight in weights])


def stretch_weights(point, start, end):
    """As mean_weights, for the two ends of a stretch."""
    if across(start, end, point) != 0:
        return (0, 0)
    d, e = end[0] - start[0], end[1] - start[1]
    on = d * (point[0] - start[0]) + e * (point[1] - start[1])
    return (d * d + e * e - on, on)


def crossing_of(points, others):
    """The Meeting of two points and two others that cross."""
    for i, j in combinations(range(len(points)), 2):
        for k, n in combinations(range(len(others)), 2):
            weights = crossing_weights(points[i], points[j], others[k], others[n])
            if min(weights) > 0:
                return Meeting((i, j), weights[:2], (k, n), weights[2:])
    return None


def crossing_weights(start, end, low, high):
    """Weights by which start and end have one mean with low and high.

    They are not all above 0 if the stretches between both do not cross.
    """
    weights = [
        across(low, high, end), -across(low, high, start),
        -across(start, end, high), across(start, end, low),
    ]
    return weights if max(weights) > 0 else [-weight for weight in weights]
