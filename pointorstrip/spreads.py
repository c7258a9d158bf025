"""Ticks spread over slots as evenly as can be."""

from pointorstrip.agreeing import Agree, agree_of
from pointorstrip.errors import BadNumber, TooLarge
from pointorstrip.figures import check_between, check_numbers, is_between
from pointorstrip.rounded import Line
from pointorstrip.stairs import stairs_of

MOST_MANY = 199


class Spread:
    """So many ticks in so many slots: slot i has one if the line rises from i to i + 1."""

    def __init__(self, ticks, slots, ahead):
        check_numbers([ticks, slots, ahead])
        check_between(1, slots, ticks)
        check_between(0, slots - 1, ahead)
        self.ticks = ticks
        self.slots = slots
        self.ahead = ahead

    def __eq__(self, other):
        return (
            isinstance(other, Spread) and self.ticks == other.ticks
            and self.slots == other.slots and self.ahead == other.ahead
        )

    def line(self):
        """The Line whose number at i is how many ticks there are in the slots from 0 below i."""
        return Line(self.ticks, self.ahead, self.slots)

    def has(self, slot):
        """Whether the slot has a tick."""
        return self.many(slot, slot + 1) == 1

    def many(self, first, last):
        """How many ticks the slots from first below last have."""
        line = self.line()
        return line.at(last) - line.at(first)

    def places(self):
        """The Line whose number at k is the slot of tick k, counted from 0 at slot 0."""
        return Line(self.slots, self.slots - 1 - self.ahead, self.ticks)


class Shared:
    """Each slot from 0 on has just one tick of two spreads."""

    def __init__(self, agreed):
        self.agreed = agreed

    def __bool__(self):
        return True

    def __eq__(self, other):
        return isinstance(other, Shared) and self.agreed == other.agreed

    def shows(self, one, other):
        """Whether it is so."""
        if not isinstance(self.agreed, Agree):
            return False
        return self.agreed.shows(one.line(), gaps_line(other), 0, None)


class Unshared:
    """The first slot from 0 on that has not just one tick of two spreads, and how many it has."""

    def __init__(self, slot, many):
        self.slot = slot
        self.many = many

    def __bool__(self):
        return False

    def __eq__(self, other):
        return isinstance(other, Unshared) and self.slot == other.slot and self.many == other.many

    def shows(self, one, other):
        """Whether it is so."""
        if self.slot < 0 or self.many == 1 or self.many != ticks_in(one, other, self.slot):
            return False
        return bool(agree_of(one.line(), gaps_line(other), 0, self.slot))


def gaps_line(spread):
    """The Line whose number at i is how many of the slots from 0 below i have no tick."""
    return Line(spread.slots - spread.ticks, spread.slots - 1 - spread.ahead, spread.slots)


def ticks_in(one, other, slot):
    """How many ticks of both spreads the slot has."""
    return one.many(slot, slot + 1) + other.many(slot, slot + 1)


def shares(one, other):
    """A Shared if each slot from 0 on has just one tick of both spreads, otherwise an Unshared."""
    found = agree_of(one.line(), gaps_line(other), 0, None)
    if found:
        return Shared(found)
    # Up to here the one has ticked as often as the other one has not, one slot on no more.
    slot = found.x - 1
    return Unshared(slot, ticks_in(one, other, slot))


def spread_of(row):
    """The Spread with so many ticks in its slots from 0 on, of the least slots, then ahead.

    None if there is none.
    """
    for value in row:
        if not is_between(0, 1, value):
            raise BadNumber(value)
    if len(row) > MOST_MANY:
        raise TooLarge(len(row) + 1)
    if 1 not in row:
        # The line of the least numbers would have no ticks at all.
        return Spread(1, len(row) + 1, 0)
    sums = [0]
    for value in row:
        sums.append(sums[-1] + value)
    found = stairs_of(sums)
    if not found:
        return None
    return Spread(found.line.a, found.line.m, found.line.b)
