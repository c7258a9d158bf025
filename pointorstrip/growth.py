"""How many whole points a hull of whole corners has as it grows."""

from pointorstrip.corners import border_points, check_corners, twice_area
from pointorstrip.errors import BadNumber
from pointorstrip.figures import check_from, check_numbers


class Growth:
    """How many points so many times a hull has, by twice its area and the points on its border."""

    def __init__(self, twice, around):
        check_numbers([twice, around])
        check_from(1, twice)
        if not fits_around(twice, around):
            raise BadNumber(around)
        self.twice = twice
        self.around = around

    def __eq__(self, other):
        return (
            isinstance(other, Growth) and self.twice == other.twice
            and self.around == other.around
        )

    def whole(self, times):
        """How many whole points so many times the hull has; times from 0 on."""
        check_from(0, times)
        return (self.twice * times * times + self.around * times) // 2 + 1

    def within(self, times):
        """How many of them are off its border; times from 1 on."""
        return self.whole(times) - self.on_border(times)

    def on_border(self, times):
        """How many of them are on its border; times from 1 on."""
        check_from(1, times)
        return self.around * times


def fits_around(twice, around):
    """Whether a hull with twice this area may have so many points on its border."""
    return 3 <= around <= twice + 2 and (twice - around) % 2 == 0


def growth(corners):
    """The Growth of the hull of the corners."""
    check_corners(corners)
    return Growth(twice_area(corners), border_points(corners))


def by_counts(once, twice):
    """The Growth that has so many points once and twice as great; None if there is none."""
    check_from(1, once)
    check_from(1, twice)
    # Both sums solved for twice the area and the points around.
    area = twice - 2 * once + 1
    around = 4 * once - twice - 3
    if not fits_around(area, around):
        return None
    return Growth(area, around)
