"""Regions of the plane with straight borders."""

from pointorstrip.errors import BadRegion
from pointorstrip.figures import is_number


def is_line_row(row):
    """Whether this is a tuple of three numbers."""
    if not isinstance(row, tuple) or len(row) != 3:
        return False
    return is_number(row[0]) and is_number(row[1]) and is_number(row[2])


def line_rows(rows):
    """The rows as a tuple; BadRegion if there is something else among them."""
    if not isinstance(rows, (list, tuple)):
        raise BadRegion(None)
    for number, row in enumerate(rows):
        if not is_line_row(row):
            raise BadRegion(number)
    return tuple(rows)


def beyond(row):
    """The row of all whole points at which this row does not hold."""
    a, b, c = row
    return (-a, -b, -c - 1)


class Region:
    """All points (x, y) with a x + b y <= c for all rows (a, b, c)."""

    def __init__(self, rows):
        self.rows = line_rows(rows)

    def __eq__(self, other):
        return isinstance(other, Region) and self.rows == other.rows

    def has(self, x, y):
        """Whether the point (x, y), whole x and y, is in the region."""
        for a, b, c in self.rows:
            if a * x + b * y > c:
                return False
        return True

    def with_rows(self, rows):
        """The region of the rows of this one and then these."""
        return Region(self.rows + line_rows(rows))
