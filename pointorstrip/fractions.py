"""Fractions, as pairs (p, q) with q from 1 on: the simplest between two, the neighbours of one."""

from math import gcd

from pointorstrip.deciding import decide
from pointorstrip.errors import BadNumber
from pointorstrip.figures import check_figures, check_from, check_numbers, is_pair
from pointorstrip.papers import refutes
from pointorstrip.ratios import below, simplest_between
from pointorstrip.regions import Region

MOST_FIGURES = 60


class Simplest:
    """The fraction strictly between two with the least q, of several that with the least p.

    The paper against shows that there is none with a lesser q.
    """

    def __init__(self, p, q, against):
        self.p = p
        self.q = q
        self.against = against

    def __eq__(self, other):
        return (
            isinstance(other, Simplest) and self.p == other.p and self.q == other.q
            and self.against == other.against
        )

    def shows(self, low, high):
        """Whether it is so."""
        told = (self.p, self.q)
        if self.q < 1 or not below(low, told) or not below(told, high):
            return False
        if below(low, (self.p - 1, self.q)):
            return False
        return refutes(self.against, Region(simpler_rows(low, high, self.q)))


class Neighbours:
    """The fractions with denominators up to a most one that are nearest to one, on both sides."""

    def __init__(self, low, high):
        self.low = low
        self.high = high

    def __eq__(self, other):
        return isinstance(other, Neighbours) and self.low == other.low and self.high == other.high

    def shows(self, fraction, most):
        """Whether it is so."""
        p, q = self.low
        r, s = self.high
        if q < 1 or q > most or s < 1 or s > most:
            return False
        if self.low == self.high:
            return self.low == lowest_terms(fraction)
        if not below(self.low, fraction) or not below(fraction, self.high):
            return False
        return r * q - p * s == 1 and q + s > most


def check_fraction(value):
    """BadNumber for what is no fraction, then TooLarge."""
    if not is_pair(value) or value[1] < 1:
        raise BadNumber(value)
    check_figures([value[0], value[1]], MOST_FIGURES)


def lowest_terms(fraction):
    """The fraction in lowest terms."""
    common = gcd(fraction[0], fraction[1])
    return (fraction[0] // common, fraction[1] // common)


def simpler_rows(low, high, q):
    """The rows of the pairs (p, q) of fractions strictly between two, with q below this one."""
    return [(-low[1], low[0], -1), (high[1], -high[0], -1), (0, -1, -1), (0, 1, q - 1)]


def simplest(low, high):
    """The Simplest fraction strictly between two."""
    check_fraction(low)
    check_fraction(high)
    if not below(low, high):
        raise BadNumber(high)
    p, q = simplest_between(low, high)
    return Simplest(p, q, decide(simpler_rows(low, high, q)))


def neighbours(fraction, most):
    """The Neighbours of a fraction with denominators from 1 to most."""
    check_fraction(fraction)
    check_from(1, most)
    there = lowest_terms(fraction)
    if there[1] <= most:
        return Neighbours(there, there)
    # Each of the fractions that the whole parts make up one after the other is nearer to it than
    # all that are simpler, now from below, now from above.
    ahead, here = (0, 1), (1, 0)
    for part in parts_of_ratio(there):
        if ahead[1] + part * here[1] > most:
            break
        ahead, here = here, (ahead[0] + part * here[0], ahead[1] + part * here[1])
    times = (most - ahead[1]) // here[1]
    other = (ahead[0] + times * here[0], ahead[1] + times * here[1])
    return Neighbours(here, other) if below(here, other) else Neighbours(other, here)


def parts_of_ratio(fraction):
    """As parts_of, for numbers of any length."""
    p, q = fraction
    parts = []
    while q:
        parts.append(p // q)
        p, q = q, p % q
    return tuple(parts)


def parts_of(fraction):
    """The tuple of the whole parts that come out when it is turned over again and again."""
    check_fraction(fraction)
    return parts_of_ratio(fraction)


def of_parts(parts):
    """The fraction of a row of whole parts, in lowest terms."""
    if not isinstance(parts, (list, tuple)) or not parts:
        raise BadNumber(parts)
    check_numbers(parts[:1])
    for part in parts[1:]:
        check_from(1, part)
    p, q = 1, 0
    for part in parts[::-1]:
        p, q = part * p + q, p
    return (p, q)
