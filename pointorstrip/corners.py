"""Corners: tuples of three or more whole points round to the left, none between two others."""

from math import gcd

from pointorstrip.errors import BadNumber
from pointorstrip.figures import is_pair
from pointorstrip.hulls import round_left


def are_corners(value):
    """Whether these are the corners of their hull, round to the left, three at least."""
    if not isinstance(value, tuple) or len(value) < 3:
        return False
    for point in value:
        if not is_pair(point):
            return False
    start = value.index(min(value))
    return value[start:] + value[:start] == round_left(value)


def check_corners(value):
    """BadNumber for what are no corners."""
    if not are_corners(value):
        raise BadNumber(value)


def ways_round(corners):
    """The ways (d, e) from each corner to the one behind it."""
    return [
        (corners[at][0] - corners[at - 1][0], corners[at][1] - corners[at - 1][1])
        for at in range(len(corners))
    ]


def twice_area(corners):
    """Twice the area of the hull of the corners."""
    return sum([
        corners[at - 1][0] * corners[at][1] - corners[at - 1][1] * corners[at][0]
        for at in range(len(corners))
    ])


def border_points(corners):
    """How many whole points are on the border of the hull of the corners."""
    return sum([gcd(d, e) for d, e in ways_round(corners)])
