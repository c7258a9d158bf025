"""Deeds that run again and again, and whether two of them ever run at once."""

from math import gcd

from pointorstrip.errors import BadNumber, TooLarge
from pointorstrip.figures import check_between, check_from, check_numbers
from pointorstrip.leasts import First, first_of
from pointorstrip.papers import refutes
from pointorstrip.regions import Region

MOST_KINDS = 5
MOST_PERIOD = 60


class Deed:
    """Runs at the times from start + i period below start + i period + length, i from 0 on."""

    def __init__(self, period, start, length):
        check_numbers([period, start, length])
        check_from(1, period)
        check_between(1, period, length)
        self.period = period
        self.start = start
        self.length = length

    def __eq__(self, other):
        return (
            isinstance(other, Deed) and self.period == other.period
            and self.start == other.start and self.length == other.length
        )

    def runs(self, time):
        """Whether it runs at a time."""
        return time >= self.start and (time - self.start) % self.period < self.length


class Apart:
    """Two deeds never run at once, as the paper for the region of their turns shows."""

    def __init__(self, paper):
        self.paper = paper

    def __bool__(self):
        return True

    def __eq__(self, other):
        return isinstance(other, Apart) and self.paper == other.paper

    def shows(self, one, other):
        """Whether it is so."""
        return refutes(self.paper, Region(turn_rows(one, other)))


class Clash:
    """The first turns in which two deeds run at once, and the first time of these.

    The paper ahead shows that the one deed does not in an earlier turn.
    """

    def __init__(self, time, turns, ahead):
        self.time = time
        self.turns = tuple(turns)
        self.ahead = ahead

    def __bool__(self):
        return False

    def __eq__(self, other):
        return (
            isinstance(other, Clash) and self.time == other.time and self.turns == other.turns
            and self.ahead == other.ahead
        )

    def shows(self, one, other):
        """Whether it is so."""
        i, j = self.turns
        if self.time != time_of(one, other, i, j):
            return False
        return First(i, j, self.ahead).shows(Region(turn_rows(one, other)))


def turn_rows(one, other):
    """The rows of the pairs of turns in which both deeds run at once."""
    p, q = one.period, other.period
    later = other.start - one.start
    return [
        (-1, 0, 0), (0, -1, 0),
        (p, -q, later + other.length - 1), (-p, q, one.length - 1 - later),
    ]


def time_of(one, other, i, j):
    """The first time at which both deeds run, if they run at once in these turns."""
    return max(one.start + i * one.period, other.start + j * other.period)


def meet(one, other):
    """An Apart if both deeds never run at once, otherwise a Clash."""
    found = first_of(turn_rows(one, other))
    if not found:
        return Apart(found)
    return Clash(time_of(one, other, found.x, found.y), (found.x, found.y), found.against)


def are_apart(one, other, shift):
    """Whether two deeds never run at once in any turns, the other one starting so much later."""
    return lie_apart((one.period, one.length), (other.period, other.length), shift)


def lie_apart(one, other, shift):
    """As are_apart, for the pairs (period, length) of the deeds."""
    # Turns of both start apart by the shift and any multiple of this.
    ring = gcd(one[0], other[0])
    later = shift % ring
    return one[1] <= later and later + other[1] <= ring


def check_kinds(kinds):
    """BadNumber for what is no row, TooLarge for too many; then the errors of each kind."""
    if not isinstance(kinds, (list, tuple)):
        raise BadNumber(kinds)
    if len(kinds) > MOST_KINDS:
        raise TooLarge(len(kinds))
    for kind in kinds:
        if not isinstance(kind, tuple) or len(kind) != 2:
            raise BadNumber(kind)
        period = Deed(kind[0], 0, kind[1]).period
        if period > MOST_PERIOD:
            raise TooLarge(period)


def arrange(kinds):
    """The first starts in order, the first 0, at which no two of the kinds ever run at once.

    None if there are none.
    """
    check_kinds(kinds)
    starts = [list(range(period)) for period, _ in kinds[1:]]
    return first_starts(list(kinds), [[0]] + starts)


def first_starts(kinds, starts):
    """The first starts in order for kinds, each one of its own starts; None if there are none."""
    if not kinds:
        return ()
    for start in starts[0]:
        left = [
            [later for later in behind if lie_apart(kinds[0], kind, later - start)]
            for kind, behind in zip(kinds[1:], starts[1:])
        ]
        # Where one kind has no start left, the others need not be tried.
        if min([len(behind) for behind in left], default=1) > 0:
            found = first_starts(kinds[1:], left)
            if found is not None:
                return (start,) + found
    return None
