"""The decision: whether a region has a whole point."""

from pointorstrip.deciding import decide
from pointorstrip.figures import check_size

MOST_ROWS = 60
MOST_FIGURES = 300


def judge(region):
    """A Point, a Thin or an Empty that shows for the region."""
    check_size(region.rows, [], MOST_ROWS, MOST_FIGURES)
    return decide(region.rows)
