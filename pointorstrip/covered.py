"""Whether each whole x of a range has a whole y in a region."""

from pointorstrip.deciding import decide
from pointorstrip.errors import TooLarge
from pointorstrip.figures import check_numbers, is_between
from pointorstrip.outlines import Outline, column, stretches, y_of
from pointorstrip.papers import refutes
from pointorstrip.regions import Region

MOST_ROWS = 12


class Covered:
    """Each x of a range has a whole y in the region, as the pieces of the range show."""

    def __init__(self, pieces):
        self.pieces = tuple(pieces)

    def __bool__(self):
        return True

    def __eq__(self, other):
        return isinstance(other, Covered) and self.pieces == other.pieces

    def shows(self, region, low, high):
        """Whether it is so."""
        behind = low
        for piece in self.pieces:
            if not isinstance(piece, Piece) or piece.first != behind or piece.last < behind:
                return False
            if not holds_on(piece, region.rows):
                return False
            behind = piece.last + 1
        return behind == high + 1 or (not self.pieces and low > high)


class Gap:
    """The x of a range has no whole y in the region."""

    def __init__(self, x):
        self.x = x

    def __bool__(self):
        return False

    def __eq__(self, other):
        return isinstance(other, Gap) and self.x == other.x

    def shows(self, region, low, high):
        """Whether it is so."""
        if self.x < low or self.x > high:
            return False
        lower, upper = column(region.rows, self.x)
        y = y_of(lower, upper)
        return y is None or not region.has(self.x, y)


class Piece:
    """From first to last the rows with these numbers bound y most, from below and from above.

    The paper shows that there is a whole y between them for each whole x.
    """

    def __init__(self, first, last, below, above, paper):
        self.first = first
        self.last = last
        self.below = below
        self.above = above
        self.paper = paper

    def __eq__(self, other):
        return (
            isinstance(other, Piece) and self.first == other.first and self.last == other.last
            and self.below == other.below and self.above == other.above
            and self.paper == other.paper
        )


def uncovered_rows(first, last, below, above):
    """The rows of the x from first to last with a whole y above the upper bound.

    It is less than 1 above the lower one.
    """
    a, b, c = below
    p, q, r = above
    return [(-1, 0, -first), (1, 0, last), (-a, -b, -c - b - 1), (-p, -q, -r - 1)]


def holds_upright(rows, x):
    """Whether all rows that do not bound y hold at x."""
    for a, b, c in rows:
        if b == 0 and a * x > c:
            return False
    return True


def bounds_both(rows):
    """Whether there are rows that bound y from above, and such that bound it from below."""
    slopes = [b for _, b, _ in rows]
    return min(slopes, default=0) < 0 < max(slopes, default=0)


def is_tightest(rows, number, x):
    """Whether no other row of its side bounds y more at x than the row with this number."""
    a, b, c = rows[number]
    for p, q, r in rows:
        # Both bounds times b and q; it is the greater one that bounds more from below.
        if q * b > 0 and (r - p * x) * abs(b) < (c - a * x) * abs(q):
            return False
    return True


def is_bound(rows, number, sign, piece):
    """Whether this is the number of a row of a side that is tightest at both ends of the piece."""
    if not is_between(0, len(rows) - 1, number) or rows[number][1] * sign <= 0:
        return False
    return is_tightest(rows, number, piece.first) and is_tightest(rows, number, piece.last)


def holds_on(piece, rows):
    """Whether the piece shows that its x, first not above last, have a y each."""
    if not holds_upright(rows, piece.first) or not holds_upright(rows, piece.last):
        return False
    if not bounds_both(rows):
        return piece.below is None and piece.above is None and piece.paper is None
    if not is_bound(rows, piece.below, -1, piece) or not is_bound(rows, piece.above, 1, piece):
        return False
    left = uncovered_rows(piece.first, piece.last, rows[piece.below], rows[piece.above])
    return refutes(piece.paper, Region(left))


def covered(region, low, high):
    """A Covered if each x from low to high has a whole y in the region, otherwise a Gap."""
    check_numbers([low, high])
    rows = region.rows
    if len(rows) > MOST_ROWS:
        raise TooLarge(len(rows))
    if low > high:
        return Covered(())
    for x in (low, high):
        if not holds_upright(rows, x):
            return Gap(x)
    if not bounds_both(rows):
        return Covered([Piece(low, high, None, None, None)])
    outline = Outline(rows)
    pieces = []
    for first, last, upper, lower in stretches(outline.uppers, outline.lowers, low, high):
        below, above = lower[3], upper[3]
        found = decide(uncovered_rows(first, last, rows[below], rows[above]))
        if found:
            return Gap(found.x)
        pieces.append(Piece(first, last, below, above, found))
    return Covered(pieces)
