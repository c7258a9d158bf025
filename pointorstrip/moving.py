"""Turning and stretching the plane."""

from pointorstrip.errors import BadNumber
from pointorstrip.figures import check_from, check_numbers
from pointorstrip.regions import Region


class Turn:
    """(x, y) goes to (a x + b y + e, c x + d y + f), a d - b c being 1 or -1."""

    def __init__(self, a, b, c, d, e, f):
        check_numbers([a, b, c, d, e, f])
        if a * d - b * c not in (1, -1):
            raise BadNumber(a * d - b * c)
        self.a = a
        self.b = b
        self.c = c
        self.d = d
        self.e = e
        self.f = f

    def __eq__(self, other):
        return (
            isinstance(other, Turn) and self.a == other.a and self.b == other.b
            and self.c == other.c and self.d == other.d and self.e == other.e and self.f == other.f
        )

    def point(self, x, y):
        """Where the point (x, y) goes."""
        return (self.a * x + self.b * y + self.e, self.c * x + self.d * y + self.f)

    def back(self):
        """The Turn that undoes this one."""
        # The determinant is 1 or -1, so multiplying by it divides by it.
        sign = self.a * self.d - self.b * self.c
        a = sign * self.d
        b = -sign * self.b
        c = -sign * self.c
        d = sign * self.a
        return Turn(a, b, c, d, -a * self.e - b * self.f, -c * self.e - d * self.f)

    def row(self, row):
        """The line row that holds where a point goes if this row holds at the point."""
        return self.rows_of([row])[0]

    def rows_of(self, rows):
        """The list of the line rows, turned."""
        back = self.back()
        return [
            (a * back.a + b * back.c, a * back.b + b * back.d, c - a * back.e - b * back.f)
            for a, b, c in rows
        ]

    def region(self, region):
        """The region of the rows of a region, turned."""
        return Region(self.rows_of(region.rows))


def turn_to(u, v):
    """A Turn that makes u x + v y the new x; u and v have no common divisor above 1."""
    # Euclid's way: one_u, one_v and next_u, next_v tell how u and v make up both numbers.
    one, one_u, one_v = u, 1, 0
    rest, rest_u, rest_v = v, 0, 1
    while rest:
        times = one // rest
        one, rest = rest, one - times * rest
        one_u, rest_u = rest_u, one_u - times * rest_u
        one_v, rest_v = rest_v, one_v - times * rest_v
    # one is 1 or -1 now, and u one_u + v one_v is one.
    return Turn(u, v, -one * one_v, one * one_u, 0, 0)


def inverse(number, modulus):
    """The number from 0 below the modulus that leaves 1, or 0 for modulus 1, times this number.

    Both numbers have no common divisor above 1.
    """
    return turn_to(number, modulus).d % modulus


def scaled(region, times):
    """The region with each c so many times as great."""
    check_from(1, times)
    return Region([(a, b, c * times) for a, b, c in region.rows])
