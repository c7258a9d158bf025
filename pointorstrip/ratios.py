"""Fractions as pairs (p, q) of numbers, q above 0."""


def below(one, other):
    """Whether the one fraction is below the other one."""
    return one[0] * other[1] < other[0] * one[1]


def difference(one, other):
    """The one fraction less the other one."""
    return (one[0] * other[1] - other[0] * one[1], one[1] * other[1])


def floor_of(fraction):
    """The greatest whole number that is not above the fraction."""
    return fraction[0] // fraction[1]


def ceil_of(fraction):
    """The least whole number that is not below the fraction."""
    return -(-fraction[0] // fraction[1])


def simplest_between(low, high):
    """The fraction strictly between two with the least q, of several with it that with the least p.

    low must be below high.
    """
    parts = []
    while True:
        whole = floor_of(low)
        if high is None or below((whole + 1, 1), high):
            break
        # What is above the whole part is at most 1 for both, so it is sought turned over: there
        # the least numerator is the least q here. High becomes None where it has no end.
        parts.append(whole)
        rest = (low[0] - whole * low[1], low[1])
        low = (high[1], high[0] - whole * high[1])
        high = (rest[1], rest[0]) if rest[0] else None
    p, q = whole + 1, 1
    for part in parts[::-1]:
        p, q = part * p + q, p
    return (p, q)
