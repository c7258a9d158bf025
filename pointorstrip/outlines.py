"""The outline of rows: which of them bound y most at each x, and how far x reaches.

A *line* is (a, b, c, number) with b above 0: y is at most (c - a x) / b; the number tells its row.
A row with b below 0 is such a line with y turned over. A *chain* is a list of pairs
(line, start) from left to right: the line is the tightest one from the fraction start on;
the first start is None.
"""

from math import gcd

from pointorstrip.ratios import below, ceil_of, floor_of


def parallel(one, other):
    """Whether two lines have one slope."""
    return one[0] * other[1] == other[0] * one[1]


def crossing(one, other):
    """The x at which a line meets another one that falls more."""
    return (other[2] * one[1] - one[2] * other[1], other[0] * one[1] - one[0] * other[1])


def comes_first(one, other):
    """Whether a line falls less than another one, or is parallel to it and tighter."""
    ahead = one[0] * other[1] - other[0] * one[1]
    if ahead == 0:
        ahead = one[2] * other[1] - other[2] * one[1]
    return ahead < 0


def by_slope(lines):
    """The lines, the one that falls least first, of parallel ones the tightest first."""
    if len(lines) < 2:
        return lines
    # Merged by hand: a key that keeps fractions of long numbers apart would be far longer still.
    middle = len(lines) // 2
    left = by_slope(lines[:middle])
    right = by_slope(lines[middle:])
    merged = []
    at = 0
    for line in left:
        while at < len(right) and comes_first(right[at], line):
            merged.append(right[at])
            at = at + 1
        merged.append(line)
    return merged + right[at:]


def tightest(lines):
    """The chain of the lines."""
    chain = []
    for line in by_slope(lines):
        if chain and parallel(chain[-1][0], line):
            continue
        start = crossing(chain[-1][0], line) if chain else None
        while len(chain) > 1 and not below(chain[-1][1], start):
            chain.pop()
            start = crossing(chain[-1][0], line)
        chain.append((line, start))
    return chain


def tight_pairs(uppers, lowers):
    """From left to right, all pairs of an upper and a lower line that are tightest together."""
    if not uppers or not lowers:
        return []
    i = j = 0
    found = [(uppers[0][0], lowers[0][0])]
    while i + 1 < len(uppers) or j + 1 < len(lowers):
        more = i + 1 < len(uppers)
        if more and (j + 1 == len(lowers) or below(uppers[i + 1][1], lowers[j + 1][1])):
            i = i + 1
        else:
            j = j + 1
        found.append((uppers[i][0], lowers[j][0]))
    return found


def tight_at(chain, x):
    """The line of a chain that is tightest at the fraction x."""
    found = chain[0][0]
    for line, start in chain[1:]:
        if below(x, start):
            break
        found = line
    return found


def stretches(uppers, lowers, first, last):
    """The whole x from first to last, not above it, in order as tuples (start, end, upper, lower).

    Each has the lines that are tightest from its start to its end. There must be some of both.
    """
    starts = [first]
    for _, start in uppers[1:] + lowers[1:]:
        x = ceil_of(start)
        if first < x <= last:
            starts.append(x)
    starts = sorted(set(starts))
    ends = [x - 1 for x in starts[1:]] + [last]
    return [
        (start, end, tight_at(uppers, (start, 1)), tight_at(lowers, (start, 1)))
        for start, end in zip(starts, ends)
    ]


class Outline:
    """What rows of a region leave of the plane.

    uppers, lowers: the chains that bound y from above, and from below with y turned over.
    low, high: the least and the greatest x as fractions, None where there is no end.
    low_parts, high_parts: pairs (number, weight) of the rows that add up to these bounds.
    weights: None, or a list with a weight for each row that shows that the region is empty;
    then low and high mean nothing.
    """

    def __init__(self, rows):
        self.uppers = tightest([
            (row[0], row[1], row[2], at) for at, row in enumerate(rows) if row[1] > 0
        ])
        self.lowers = tightest([
            (row[0], -row[1], row[2], at) for at, row in enumerate(rows) if row[1] < 0
        ])
        self.low = None
        self.low_parts = []
        self.high = None
        self.high_parts = []
        self.weights = None
        for at, row in enumerate(rows):
            if row[1] == 0:
                self._bound(rows, row[0], row[2], [(at, 1)])
        for upper, lower in tight_pairs(self.uppers, self.lowers):
            # The sum of both lines with these weights bounds x alone.
            a = upper[0] * lower[1] + lower[0] * upper[1]
            c = upper[2] * lower[1] + lower[2] * upper[1]
            self._bound(rows, a, c, [(upper[3], lower[1]), (lower[3], upper[1])])
        if self.low is not None and self.high is not None and below(self.high, self.low):
            self._clash(rows)

    def _bound(self, rows, a, c, parts):
        """Takes in that a x is at most c, the sum of these parts."""
        if a > 0 and (self.high is None or below((c, a), self.high)):
            self.high = (c, a)
            self.high_parts = parts
        if a < 0 and (self.low is None or below(self.low, (-c, -a))):
            self.low = (-c, -a)
            self.low_parts = parts
        if a == 0 and c < 0:
            self.weights = weights_of(len(rows), parts)

    def _clash(self, rows):
        """Keeps weights of the rows for which low is above high."""
        parts = [(at, weight * self.high[1]) for at, weight in self.low_parts]
        parts = parts + [(at, weight * self.low[1]) for at, weight in self.high_parts]
        self.weights = weights_of(len(rows), parts)
        used = [at for at, weight in enumerate(self.weights) if weight]
        if len(used) > 3:
            self.weights = weights_of(len(rows), empty_three(rows, used))

    def is_bounded(self):
        """Whether the region has an end on all sides, if it is not empty."""
        if self.low is None or self.high is None:
            return False
        return len(self.uppers) > 0 and len(self.lowers) > 0

    def whole_ends(self):
        """The first and the last whole x from low to high; the first is above if there is none."""
        return (ceil_of(self.low), floor_of(self.high))

    def outer_points(self):
        """Points (x, y, d), for the point (x / d, y / d), between which a bounded region lies."""
        over = chain_corners(self.uppers, self.low, self.high)
        under = chain_corners(self.lowers, self.low, self.high)
        return over + [(x, -y, d) for x, y, d in under]


def weights_of(many, parts):
    """A list of so many weights, those of the parts added up, without a common divisor."""
    weights = [0] * many
    common = 0
    for at, weight in parts:
        weights[at] = weights[at] + weight
    for weight in weights:
        common = gcd(common, weight)
    return [weight // common for weight in weights]


def empty_three(rows, numbers):
    """The parts of three of four rows that are empty already."""
    for left_out in numbers:
        i, j, k = [at for at in numbers if at != left_out]
        (a, b, c), (p, q, r), (s, t, w) = rows[i], rows[j], rows[k]
        # With these weights the sums of the first and the second numbers are 0.
        parts = [(i, p * t - q * s), (j, s * b - t * a), (k, a * q - b * p)]
        least = min([weight for _, weight in parts])
        most = max([weight for _, weight in parts])
        if least < 0 < most:
            continue
        if least < 0:
            parts = [(at, -weight) for at, weight in parts]
        if c * parts[0][1] + r * parts[1][1] + w * parts[2][1] < 0:
            return parts
    return []


def chain_corners(chain, low, high):
    """The points (x, y, d) of a chain at the fractions low and high and at its bends between."""
    places = [(tight_at(chain, low), low)]
    for line, start in chain[1:]:
        if below(low, start) and below(start, high):
            places.append((line, start))
    places.append((places[-1][0], high))
    return [point_on(line, x) for line, x in places]


def point_on(line, x):
    """The point (x, y, d) of a line at the fraction x, without a common divisor."""
    a, b, c, _ = line
    p, q = x
    common = gcd(gcd(p * b, c * q - a * p), b * q)
    return (p * b // common, (c * q - a * p) // common, b * q // common)


def column(rows, x):
    """How the rows bound whole y at a whole x: the pair of the least and the greatest one.

    Each is None where there is no end, otherwise (y, number) with the row that bounds it.
    """
    low = None
    high = None
    for number, (a, b, c) in enumerate(rows):
        if b > 0:
            y = (c - a * x) // b
            if high is None or y < high[0]:
                high = (y, number)
        elif b < 0:
            y = -((c - a * x) // -b)
            if low is None or y > low[0]:
                low = (y, number)
    return (low, high)


def y_of(low, high):
    """A whole y between the ends that column tells, None if there is none."""
    if low is not None:
        return low[0] if high is None or low[0] <= high[0] else None
    return 0 if high is None else high[0]
