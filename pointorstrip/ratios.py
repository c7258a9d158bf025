"""Fractions as pairs (p, q) of numbers, q above 0."""


def below(one, other):
    """Whether the one fraction is below the other one."""
    return one[0] * other[1] < other[0] * one[1]


def difference(one, other):
    """The one fraction less the other one."""
    return (one[0] * other[1] - other[0] * one[1], one[1] * other[1])


def floor_of(fraction):
    """The greatest whole number that is not above the fraction."""
    return fraction[0] // fraction[1]


def ceil_of(fraction):
    """The least whole number that is not below the fraction."""
    return -(-fraction[0] // fraction[1])
