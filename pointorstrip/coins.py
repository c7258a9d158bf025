"""Which amounts two coins pay, and in how many ways."""

from math import gcd

from pointorstrip.counting import count_of
from pointorstrip.deciding import decide
from pointorstrip.errors import TooLarge
from pointorstrip.figures import check_from, check_numbers
from pointorstrip.papers import Point, refutes
from pointorstrip.regions import Region

MOST_LESSER = 1000


class Unpaid:
    """The greatest amount that two coins do not pay, as against shows.

    paid has Points that pay the next amounts, as many as the lesser coin is.
    """

    def __init__(self, amount, against, paid):
        self.amount = amount
        self.against = against
        self.paid = tuple(paid)

    def __eq__(self, other):
        return (
            isinstance(other, Unpaid) and self.amount == other.amount
            and self.against == other.against and self.paid == other.paid
        )

    def shows(self, one, other):
        """Whether it is so."""
        if len(self.paid) != min(one, other):
            return False
        for number, point in enumerate(self.paid):
            amount = self.amount + 1 + number
            if not isinstance(point, Point) or not point.shows(payments(one, other, amount)):
                return False
        return refutes(self.against, payments(one, other, self.amount))


def payments(one, other, amount):
    """The region of the points (x, y) from 0 on that pay an amount."""
    return Region([(one, other, amount), (-one, -other, -amount), (-1, 0, 0), (0, -1, 0)])


def check_coins(one, other):
    """BadNumber for the first that is no coin."""
    check_from(1, one)
    check_from(1, other)


def pay(one, other, amount):
    """A Point that pays the amount, otherwise a Thin or an Empty that shows that none does."""
    check_coins(one, other)
    check_numbers([amount])
    return decide(payments(one, other, amount).rows)


def ways_to_pay(one, other, amount):
    """How many points from 0 on pay the amount."""
    check_coins(one, other)
    check_numbers([amount])
    return count_of(payments(one, other, amount).rows)


def greatest_unpaid(one, other):
    """The Unpaid of two coins; None if they have a common divisor above 1."""
    check_coins(one, other)
    if min(one, other) > MOST_LESSER:
        raise TooLarge(min(one, other))
    if gcd(one, other) > 1:
        return None
    amount = one * other - one - other
    against = decide(payments(one, other, amount).rows)
    return Unpaid(amount, against, paid_behind(one, other, amount))


def paid_behind(one, other, amount):
    """Points that pay the amounts behind the greatest unpaid one, as many as the lesser coin is."""
    lesser = min(one, other)
    greater = max(one, other)
    # So many of the greater coin leave just one rest by the lesser one each; what is left then
    # of an amount that can be paid is not below 0.
    times = {greater * many % lesser: many for many in range(lesser)}
    paid = []
    for number in range(amount + 1, amount + 1 + lesser):
        many = times[number % lesser]
        rest = (number - greater * many) // lesser
        paid.append(Point(rest, many) if one == lesser else Point(many, rest))
    return paid
