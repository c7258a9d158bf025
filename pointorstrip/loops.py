"""Turns of a loop in which two accesses meet one cell."""

from pointorstrip.deciding import decide
from pointorstrip.figures import check_between
from pointorstrip.leasts import Least, least_of
from pointorstrip.papers import refutes
from pointorstrip.regions import Region

MOST = 10 ** 18


class Access:
    """In turn i, from 0, the cell times i + more is written or read."""

    def __init__(self, times, more):
        check_between(-MOST, MOST, times)
        check_between(-MOST, MOST, more)
        self.times = times
        self.more = more

    def __eq__(self, other):
        return isinstance(other, Access) and self.times == other.times and self.more == other.more

    def cell(self, turn):
        """The cell of a turn."""
        return self.times * turn + self.more


class Width:
    """The least distance of two turns that meet one cell, one of them writing it; None if none.

    told has, for all pairs of accesses of which one at least is a write, what closest tells.
    """

    def __init__(self, number, told):
        self.number = number
        self.told = {pair: told[pair] for pair in told}

    def __eq__(self, other):
        return isinstance(other, Width) and self.number == other.number and self.told == other.told

    def shows(self, writes, reads, turns):
        """Whether it is so."""
        pairs = access_pairs(writes, reads)
        if len(self.told) != len(pairs):
            return False
        for pair in pairs:
            if pair not in self.told:
                return False
            one, other = pairs[pair]
            if not is_closest(self.told[pair], Region(ahead_rows(one, other, turns))):
                return False
        return self.number == least_number(self.told)


def meeting_rows(one, other, turns):
    """The rows of the pairs of turns in which the one and the other access meet a cell."""
    way = other.more - one.more
    return [
        (one.times, -other.times, way), (-one.times, other.times, -way),
        (-1, 0, 0), (1, 0, turns - 1), (0, -1, 0), (0, 1, turns - 1),
    ]


def ahead_rows(one, other, turns):
    """As meeting_rows, the one's turn being the earlier one."""
    return meeting_rows(one, other, turns) + [(1, -1, -1)]


def check_turns(turns):
    """BadNumber for what is no number of turns."""
    check_between(1, MOST, turns)


def meetings(one, other, turns):
    """A Point of turns in which both meet a cell, or a paper: the one ahead, the same, behind."""
    check_turns(turns)
    rows = meeting_rows(one, other, turns)
    return {
        "ahead": decide(ahead_rows(one, other, turns)),
        "same": decide(rows + [(1, -1, 0), (-1, 1, 0)]),
        "behind": decide(rows + [(-1, 1, -1)]),
    }


def closest(one, other, turns):
    """A Least of how far the other's turn is behind the one's as both meet a cell, or a paper."""
    check_turns(turns)
    return least_of(ahead_rows(one, other, turns), -1, 1)


def access_pairs(writes, reads):
    """The two accesses of each pair of numbers, writes first, of which one at least is a write."""
    accesses = list(writes) + list(reads)
    pairs = {}
    for p, one in enumerate(accesses):
        for q, other in enumerate(accesses):
            if min(p, q) < len(writes):
                pairs[(p, q)] = (one, other)
    return pairs


def is_closest(found, region):
    """Whether this shows how close two accesses meet in the region of the one's being ahead."""
    if isinstance(found, Least):
        return found.shows(region, -1, 1)
    return refutes(found, region)


def least_number(told):
    """The least value of what closest tells of some pairs, None if there is none."""
    return min([found.value for found in told.values() if isinstance(found, Least)], default=None)


def width(writes, reads, turns):
    """The Width of a loop of so many turns with these writes and reads."""
    check_turns(turns)
    pairs = access_pairs(writes, reads)
    told = {pair: closest(pairs[pair][0], pairs[pair][1], turns) for pair in pairs}
    return Width(least_number(told), told)
