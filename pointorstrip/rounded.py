"""Rounded lines: the numbers (a x + b) // m for all whole x."""

from pointorstrip.figures import check_from, check_numbers


class Line:
    """The numbers (a x + b) // m for all whole x, m from 1 on."""

    def __init__(self, a, b, m):
        check_numbers([a, b, m])
        check_from(1, m)
        self.a = a
        self.b = b
        self.m = m

    def __eq__(self, other):
        return (
            isinstance(other, Line) and self.a == other.a
            and self.b == other.b and self.m == other.m
        )

    def at(self, x):
        """The line's number at the place x."""
        return (self.a * x + self.b) // self.m

    def raised(self, many):
        """The Line that is so much greater everywhere."""
        return Line(self.a, self.b + many * self.m, self.m)
