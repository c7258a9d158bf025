"""The whole points of a region, by x, then y."""

from pointorstrip.counting import count_of, total
from pointorstrip.errors import BadNumber
from pointorstrip.figures import check_between, check_from, check_numbers, check_size
from pointorstrip.leasts import MOST_FIGURES, MOST_ROWS, lowest
from pointorstrip.outlines import Outline, column, stretches

MOST_PARTS = 1000


def count_finite(region):
    """How many whole points the region has; TooLarge, then BadNumber for points without end."""
    check_size(region.rows, [], MOST_ROWS, MOST_FIGURES)
    many = count_of(region.rows)
    if many is None:
        raise BadNumber(None)
    return many


def rank(region, x, y):
    """How many points are ahead of (x, y); None if it is none of them."""
    count_finite(region)
    check_numbers([x, y])
    if not region.has(x, y):
        return None
    low, _ = column(region.rows, x)
    return count_of(list(region.rows) + [(1, 0, x - 1)]) + y - low[0]


def point_at(region, number):
    """The point that has so many ahead of it; None if there are no more than that."""
    many = count_finite(region)
    check_from(0, number)
    if number >= many:
        return None
    return points_at(region.rows, [number])[0]


def next_point(region, x, y):
    """The first point behind (x, y); None if there is none."""
    many = count_finite(region)
    check_numbers([x, y])
    if many == 0:
        return None
    low, _ = column(region.rows, x)
    above = max(low[0], y + 1)
    if region.has(x, above):
        return (x, above)
    found = lowest(list(region.rows) + [(-1, 0, -x - 1)], 1, 0)
    if not found:
        return None
    low, _ = column(region.rows, found.x)
    return (found.x, low[0])


def fair_parts(region, parts):
    """The first point of each of so many parts of the points, as alike in number as can be.

    None for a part that has none.
    """
    many = count_finite(region)
    check_between(1, MOST_PARTS, parts)
    numbers = [many * part // parts for part in range(parts + 1)]
    firsts = [numbers[part] for part in range(parts) if numbers[part] < numbers[part + 1]]
    points = dict(zip(firsts, points_at(region.rows, firsts)))
    return [
        points[numbers[part]] if numbers[part] < numbers[part + 1] else None
        for part in range(parts)
    ]


def columns_with(region, many):
    """The least x with at least so many points (x, y); None if there is none."""
    count_finite(region)
    check_from(1, many)
    # A column has so many exactly if it has two of them that are many - 1 apart.
    rows = [(a, b, c - b * (many - 1)) if b > 0 else (a, b, c) for a, b, c in region.rows]
    found = lowest(rows, 1, 0)
    return found.x if found else None


def points_in(stretch, many):
    """How many points the first so many columns of a stretch have."""
    start, _, upper, lower = stretch
    a, b, c, _ = upper
    p, q, r, _ = lower
    return total(-a, c - a * start, b, many) + total(-p, r - p * start, q, many) + many


def points_at(rows, numbers):
    """The points with these numbers, ascending ones of points that there are."""
    if not numbers:
        return []
    outline = Outline(rows)
    first, last = outline.whole_ends()
    ahead = 0
    found = []
    for stretch in stretches(outline.uppers, outline.lowers, first, last):
        behind = ahead + points_in(stretch, stretch[1] - stretch[0] + 1)
        while len(found) < len(numbers) and numbers[len(found)] < behind:
            found.append(point_in(rows, stretch, numbers[len(found)] - ahead))
        ahead = behind
    return found


def point_in(rows, stretch, number):
    """The point of a stretch that has so many of it ahead."""
    columns = columns_ahead(stretch, number)
    x = stretch[0] + columns
    low, _ = column(rows, x)
    return (x, low[0] + number - points_in(stretch, columns))


def columns_ahead(stretch, number):
    """How many columns of a stretch are ahead of the point that has so many of it ahead."""
    low, high = 0, stretch[1] - stretch[0] + 1
    # So much is the number above what is ahead of low, and below what is ahead of high.
    over, under = number + 1, points_in(stretch, high) - number
    by_half = False
    while high - low > 1:
        # By proportion it ends far sooner as a rule; halving in between bounds it.
        middle = (low + high) // 2
        if not by_half:
            middle = min(max((low * under + high * over) // (over + under), low + 1), high - 1)
        by_half = not by_half
        ahead = points_in(stretch, middle)
        if ahead <= number:
            low, over = middle, number - ahead + 1
        else:
            high, under = middle, ahead - number
    return low
