"""Formats of numbers, and whether all of one come back when written in another base and read."""

from pointorstrip.deciding import decide
from pointorstrip.errors import TooLarge
from pointorstrip.figures import check_between, is_number, power
from pointorstrip.papers import refutes
from pointorstrip.regions import Region

LEAST_BASE = 2
MOST_BASE = 100
MOST_FIGURES = 60
MOST_EXPONENT = 200
MOST_READ = 2000
MOST_NUMBER = 10 ** 60 * 10 ** 60

CASES = ("less", "more", "above", "below")


class Format:
    """All numbers m base ** e with m of so many figures and e from low to high."""

    def __init__(self, base, figures, low, high):
        check_base(base)
        check_between(1, MOST_FIGURES, figures)
        check_between(-MOST_EXPONENT, MOST_EXPONENT, low)
        check_between(low, MOST_EXPONENT, high)
        self.base = base
        self.figures = figures
        self.low = low
        self.high = high

    def __eq__(self, other):
        return (
            isinstance(other, Format) and self.base == other.base
            and self.figures == other.figures and self.low == other.low and self.high == other.high
        )

    def has(self, m, e):
        """Whether m base ** e is a number of the format, so told; m and e may be anything."""
        if not is_number(m) or not is_number(e) or e < self.low or e > self.high:
            return False
        least = self.least()
        return least <= m < least * self.base

    def least(self):
        """The least m."""
        return power(self.base, self.figures - 1)


class Back:
    """Every number of a format comes back, as papers show for all exponents and cases."""

    def __init__(self, papers):
        self.papers = {key: papers[key] for key in papers}

    def __bool__(self):
        return True

    def __eq__(self, other):
        return isinstance(other, Back) and self.papers == other.papers

    def shows(self, format_of, other, figures):
        """Whether it is so."""
        keys = case_keys(format_of, other, figures)
        if len(self.papers) != len(keys):
            return False
        for key in keys:
            region = Region(case_rows(format_of, other, figures, key))
            if key not in self.papers or not refutes(self.papers[key], region):
                return False
        return True


class Lost:
    """The number m base ** e of a format does not come back."""

    def __init__(self, m, e):
        self.m = m
        self.e = e

    def __bool__(self):
        return False

    def __eq__(self, other):
        return isinstance(other, Lost) and self.m == other.m and self.e == other.e

    def shows(self, format_of, other, figures):
        """Whether it is so."""
        if not format_of.has(self.m, self.e):
            return False
        return not comes_back(format_of, other, figures, self.m, self.e)


class Fewest:
    """With so many figures every number of a format comes back; lost has one for each fewer."""

    def __init__(self, figures, back, lost):
        self.figures = figures
        self.back = back
        self.lost = tuple(lost)

    def __eq__(self, other):
        return (
            isinstance(other, Fewest) and self.figures == other.figures
            and self.back == other.back and self.lost == other.lost
        )

    def shows(self, format_of, other):
        """Whether it is so."""
        if self.figures != len(self.lost) + 1 or not isinstance(self.back, Back):
            return False
        for number, lost in enumerate(self.lost, start=1):
            if not isinstance(lost, Lost) or not lost.shows(format_of, other, number):
                return False
        return self.back.shows(format_of, other, self.figures)


def check_base(base):
    """BadNumber for what is no base."""
    check_between(LEAST_BASE, MOST_BASE, base)


def scaled_by(number, base, exponent):
    """The fraction number base ** exponent."""
    if exponent < 0:
        return (number, power(base, -exponent))
    return (number * power(base, exponent), 1)


def figures_in(base, number):
    """How many figures a number from 0 on has in a base, none for 0."""
    many = 0
    bound = 1
    while bound <= number:
        bound = bound * base
        many = many + 1
    return many


def order_of(fraction, base):
    """The exponent of the greatest power of the base that is not above a fraction above 0."""
    p, q = fraction
    if p >= q:
        return figures_in(base, p // q) - 1
    # The least power that is not below q / p is the first one above all whole numbers below it.
    return -figures_in(base, (q - 1) // p)


def rounded(fraction, base, figures):
    """The pair (m, e), m of so many figures, that is nearest to a fraction above 0.

    Of two as near it is the greater one.
    """
    e = order_of(fraction, base) - figures + 1
    unit = scaled_by(1, base, e)
    p = fraction[0] * unit[1]
    q = fraction[1] * unit[0]
    m = (2 * p + q) // (2 * q)
    if m == power(base, figures):
        return (m // base, e + 1)
    return (m, e)


def written(base, m, e, other, figures):
    """The pair (d, f), d of so many figures, for which d other ** f is nearest to m base ** e."""
    check_base(base)
    check_between(1, MOST_NUMBER, m)
    check_between(-MOST_EXPONENT, MOST_EXPONENT, e)
    check_base(other)
    check_between(1, MOST_FIGURES, figures)
    return rounded(scaled_by(m, base, e), other, figures)


def read(format_of, other, d, f):
    """The pair (m, e) of the format's number that is nearest to d other ** f."""
    check_base(other)
    check_between(1, MOST_NUMBER, d)
    check_between(-MOST_READ, MOST_READ, f)
    m, e = rounded(scaled_by(d, other, f), format_of.base, format_of.figures)
    if e < format_of.low:
        return (format_of.least(), format_of.low)
    if e > format_of.high:
        return (format_of.least() * format_of.base - 1, format_of.high)
    return (m, e)


def comes_back(format_of, other, figures, m, e):
    """Whether a number of the format, written in the other base and read, is itself."""
    d, f = written(format_of.base, m, e, other, figures)
    return read(format_of, other, d, f) == (m, e)


def case_keys(format_of, other, figures):
    """All triples (e, f, case): numbers with e may be written with f, and be lost in this way."""
    least = format_of.least()
    base = format_of.base
    keys = []
    for e in range(format_of.low, format_of.high + 1):
        # Numbers from one power of the other base below the next are never further apart than
        # from 0 to the least of them, so there are some for each power between.
        first = order_of(scaled_by(least, base, e), other) - figures + 1
        last = order_of(scaled_by(least * base - 1, base, e), other) - figures + 1
        for f in range(first, last + 1):
            keys.extend([(e, f, case) for case in CASES])
            if e > format_of.low:
                keys.append((e, f, "first"))
    return keys


def case_rows(format_of, other, figures, key):
    """The rows of the pairs (m, d): m base ** e, written as d other ** f, is lost in this way."""
    e, f, case = key
    base = format_of.base
    least = format_of.least()
    p = power(base, max(e, 0)) * power(other, max(-f, 0))
    q = power(other, max(f, 0)) * power(base, max(-e, 0))
    top = power(other, figures)
    rows = [
        (-1, 0, -least), (1, 0, least * base - 1), (-p, 0, -(top // other) * q), (p, 0, top * q - 1),
        (-2 * p, 2 * q, q), (2 * p, -2 * q, q - 1),
    ]
    if case == "less":
        rows = rows + [(0, -q, -least * p), (-2 * p, 2 * q, -p - 1)]
    elif case == "more":
        rows = rows + [(0, q, least * base * p - 1), (2 * p, -2 * q, -p)]
    elif case == "above":
        rows.append((0, -q, -least * base * p))
    elif case == "below":
        rows = rows + [(0, q, least * p - 1), (-1, 0, -least - 1)]
    else:
        rows = rows + [(1, 0, least), (-2 * base * p, 2 * base * q, -p - 1)]
    if case in ("more", "above") and e == format_of.high:
        # The greatest number is read back from all that is above it.
        rows.append((1, 0, least * base - 2))
    return rows


def judge_back(format_of, other, figures):
    """A Back if every number of the format comes back, otherwise a Lost."""
    check_base(other)
    check_between(1, MOST_FIGURES, figures)
    papers = {}
    for key in case_keys(format_of, other, figures):
        found = decide(case_rows(format_of, other, figures, key))
        if found:
            return Lost(found.x, key[0])
        papers[key] = found
    return Back(papers)


def fewest_figures(format_of, other):
    """The Fewest figures of the other base with which every number of the format comes back."""
    lost = []
    for figures in range(1, MOST_FIGURES + 1):
        found = judge_back(format_of, other, figures)
        if found:
            return Fewest(figures, found, lost)
        lost.append(found)
    raise TooLarge(MOST_FIGURES + 1)
