"""What the tests share: regions made by a seeded generator, and going through all points."""

import random

from pointorstrip.moving import Turn
from pointorstrip.papers import Empty, Thin
from pointorstrip.regions import Region
from pointorstrip.rounded import Line


def generator(seed):
    return random.Random(seed)


def box_rows(size):
    return [(1, 0, size), (-1, 0, size), (0, 1, size), (0, -1, size)]


def points_of(region, size):
    """All whole points of a region with x and y from -size to size, ascending."""
    sizes = range(-size, size + 1)
    return [(x, y) for x in sizes for y in sizes if region.has(x, y)]


def some_rows(chance, most_rows=4):
    """A few rows, some of them a narrow strip."""
    size = chance.choice([2, 5, 20])
    rows = []
    for _ in range(chance.randint(0, most_rows)):
        a, b = chance.randint(-size, size), chance.randint(-size, size)
        rows.append((a, b, chance.randint(-size, 3 * size)))
    if chance.random() < 0.4:
        a, b, c = [chance.randint(-size, size) for _ in range(3)]
        rows.extend([(a, b, c), (-a, -b, chance.randint(0, 2) - c)])
    chance.shuffle(rows)
    return rows


def some_lines(chance):
    """Two lines that are much alike, or have little to do with one another."""
    one = Line(chance.randint(-9, 9), chance.randint(-20, 20), chance.randint(1, 9))
    if chance.random() < 0.6:
        times = chance.randint(1, 3)
        a = one.a * times + chance.choice([0, 0, 0, 1, -1])
        return one, Line(a, one.b * times + chance.randint(-1, times), one.m * times)
    return one, Line(chance.randint(-9, 9), chance.randint(-20, 20), chance.randint(1, 9))


def some_turn(chance, size):
    """A Turn of determinant 1 with numbers of about this size: it makes things long and askew."""
    a, b, c, d = 1, 0, 0, 1
    while max(abs(a), abs(b), abs(c), abs(d)) < size:
        k = chance.randint(-9, 9)
        if chance.random() < 0.5:
            a, b = a + k * c, b + k * d
        else:
            c, d = c + k * a, d + k * b
    return Turn(a, b, c, d, chance.randint(-size, size), chance.randint(-size, size))


def refutes(paper, rows):
    """Whether this is a Thin or an Empty that shows for the region of the rows."""
    return type(paper) in (Thin, Empty) and paper.shows(Region(rows))


def hull_of_points(points):
    """The corners of the hull of points, round to the left, going from each to the next one."""
    points = sorted(set(points))
    corners = [points[0]]
    while True:
        x, y = corners[-1]
        best = None
        for s, t in points:
            if (s, t) == (x, y):
                continue
            across = 0 if best is None else (best[0] - x) * (t - y) - (best[1] - y) * (s - x)
            further = best is None or abs(s - x) + abs(t - y) > abs(best[0] - x) + abs(best[1] - y)
            if across < 0 or (across == 0 and further):
                best = (s, t)
        if best is None or best == corners[0]:
            return tuple(corners)
        corners.append(best)


def check_equality(test, kind, arguments, others):
    """An object is equal to one of its class with the same arguments, and to nothing else.

    others has one more argument for each place, unlike the one that stands there.
    """
    made = kind(*arguments)
    test.assertTrue(made == kind(*arguments))
    test.assertFalse(made != kind(*arguments))
    for at, other in enumerate(others):
        changed = list(arguments)
        changed[at] = other
        test.assertFalse(made == kind(*changed), (kind, at))
        test.assertTrue(made != kind(*changed), (kind, at))

    class Alike:
        def __init__(self):
            self.__dict__.update(made.__dict__)

    for other in (None, 0, True, "", (), tuple(arguments), Alike()):
        test.assertFalse(made == other)
