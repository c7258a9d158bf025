"""The direction in which points (x, y, d), for (x / d, y / d), lie closest together."""

from pointorstrip.moving import Turn
from pointorstrip.ratios import below, difference


def reach(points, u, v):
    """The least and the greatest value of u x + v y at the points, as fractions."""
    values = [(u * x + v * y, d) for x, y, d in points]
    least = greatest = values[0]
    for value in values[1:]:
        if below(value, least):
            least = value
        elif below(greatest, value):
            greatest = value
    return (least, greatest)


def width(points, u, v):
    """How much u x + v y changes between the points, as a fraction."""
    least, greatest = reach(points, u, v)
    return difference(greatest, least)


def farthest(points, sizes):
    """The point (x, y, d) whose size, divided by its d, is the greatest."""
    best = 0
    for at in range(1, len(points)):
        if below((sizes[best], points[best][2]), (sizes[at], points[at][2])):
            best = at
    return points[best]


def main_ways(points):
    """Two vectors that tell, up to a factor, how far the points lie apart in all directions."""
    # The one goes to the point farthest off, the other one to that farthest off their line:
    # all points are within twice the one and once the other.
    first_x, first_y, first_d = points[0]
    ways = [(x * first_d - first_x * d, y * first_d - first_y * d, d) for x, y, d in points]
    x, y, d = farthest(ways, [max(abs(way[0]), abs(way[1])) for way in ways])
    s, t, e = farthest(ways, [abs(way[0] * y - way[1] * x) for way in ways])
    return ((x * e, y * e), (s * d, t * d))


def short_basis(ways):
    """Whole (u, v), (p, q), determinant 1 or -1, that are short by their products with the ways."""
    (x, y), (s, t) = ways
    u, v, p, q = 1, 0, 0, 1
    # a, b, c: the products of both with themselves and of one with the other.
    a = x * x + s * s
    b = x * y + s * t
    c = y * y + t * t
    while True:
        if c < a:
            u, v, p, q = p, q, u, v
            a, c = c, a
        times = (2 * b + a) // (2 * a) if a else 0
        if times == 0:
            return (u, v, p, q)
        c = c - times * (2 * b - times * a)
        b = b - times * a
        p = p - times * u
        q = q - times * v


def shortened(points, u, v, p, q):
    """(p, q), and its width, with (u, v) added or taken so often that it is least wide."""
    least = width(points, p, q)
    for sign in (1, -1):
        while True:
            wide = width(points, p + sign * u, q + sign * v)
            if not below(wide, least):
                break
            least = wide
            p = p + sign * u
            q = q + sign * v
    return (p, q, least)


def narrow_turn(points):
    """A Turn whose new x is as little wide as any whole direction; the points lie within ends."""
    u, v, p, q = short_basis(main_ways(points))
    wide = width(points, u, v)
    other = width(points, p, q)
    # A vector's width is from 0.7 to 6 times its length by the ways, and all that are no
    # multiples of (u, v) are longer than 0.86 times (p, q): so none of them is less wide here.
    if not below(other, (10 * wide[0], wide[1])):
        return Turn(u, v, p, q, 0, 0)
    # All lengths are alike up to a factor here, so both loops go round a few times at most.
    while True:
        p, q, other = shortened(points, u, v, p, q)
        if not below(other, wide):
            return Turn(u, v, p, q, 0, 0)
        u, v, p, q = p, q, u, v
        wide = other
