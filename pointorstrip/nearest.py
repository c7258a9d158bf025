"""The nearest whole point of a region."""

from pointorstrip.deciding import decide
from pointorstrip.errors import BadNumber
from pointorstrip.figures import check_numbers, check_size
from pointorstrip.leasts import MOST_FIGURES, MOST_ROWS
from pointorstrip.papers import refutes

NORMS = ("greater", "sum")


class Nearest:
    """A whole point of a region so far from a given one; against shows that none is nearer."""

    def __init__(self, far, x, y, against):
        self.far = far
        self.x = x
        self.y = y
        self.against = against

    def __eq__(self, other):
        return (
            isinstance(other, Nearest) and self.far == other.far and self.x == other.x
            and self.y == other.y and self.against == other.against
        )

    def shows(self, region, x, y, norm):
        """Whether it is so."""
        if not region.has(self.x, self.y) or self.far != distance(self.x - x, self.y - y, norm):
            return False
        if self.far == 0:
            return self.against is None
        return refutes(self.against, region.with_rows(rows_near(x, y, norm, self.far - 1)))


def distance(d, e, norm):
    """How far two points are apart whose x and y differ by d and e."""
    return max(abs(d), abs(e)) if norm == "greater" else abs(d) + abs(e)


def rows_near(x, y, norm, far):
    """The rows of all points that are at most so far from (x, y)."""
    if norm == "greater":
        return [(1, 0, x + far), (-1, 0, far - x), (0, 1, y + far), (0, -1, far - y)]
    return [
        (1, 1, x + y + far), (1, -1, x - y + far), (-1, 1, y - x + far), (-1, -1, far - x - y),
    ]


def nearest(region, x, y, norm):
    """A Nearest; a Thin or an Empty if the region has no whole point."""
    check_numbers([x, y])
    if norm not in NORMS:
        raise BadNumber(norm)
    check_size(region.rows, [x, y], MOST_ROWS, MOST_FIGURES)
    rows = list(region.rows)
    found = decide(rows)
    if not found:
        return found
    best = found
    least = 0
    far = distance(best.x - x, best.y - y, norm)
    while least < far:
        middle = (least + far) // 2
        found = decide(rows + rows_near(x, y, norm, middle))
        if found:
            best = found
            far = distance(best.x - x, best.y - y, norm)
        else:
            least = middle + 1
    against = decide(rows + rows_near(x, y, norm, far - 1)) if far else None
    return Nearest(far, best.x, best.y, against)
