"""At how many places of a range two rounded lines differ, and which of these is which."""

from pointorstrip.agreeing import check_range, end_rows
from pointorstrip.counting import count_of
from pointorstrip.figures import check_from, check_numbers


def rise_rows(one, other, low, high):
    """The rows of the (x, y) of a range with y one above the other line, not above the one."""
    return end_rows(low, high) + [
        (-one.a, one.m, one.b), (other.a, -other.m, -other.b - 1),
        (-other.a, other.m, other.b + other.m),
    ]


def rises(one, other, low, high):
    """At how many places of the range the one line is above the other one; None without end."""
    return count_of(rise_rows(one, other, low, high))


def tallies(one, other, low, high):
    """At how many places of the range the one line is above, alike, below, as a triple."""
    check_numbers([low, high])
    check_range(one, other, low, high)
    above = rises(one, other, low, high)
    under = rises(other, one, low, high)
    return (above, max(0, high - low + 1) - above - under, under)


def differing(one, other, low, high):
    """At how many places of the range the lines differ; None without end."""
    check_range(one, other, low, high)
    return differing_of(one, other, low, high)


def differing_of(one, other, low, high):
    """As differing, for numbers of any length."""
    above = rises(one, other, low, high)
    under = rises(other, one, low, high)
    return None if above is None or under is None else above + under


def nth_place(one, other, low, number):
    """The place with this number, from 0, of those from low on at which the lines differ.

    None if there are fewer.
    """
    check_numbers([low])
    check_range(one, other, low, low)
    check_from(0, number)
    many = differing_of(one, other, low, None)
    if many is not None and many <= number:
        return None
    # Lines that differ without end do so at least once in each period of both.
    wide = 1
    while differing_of(one, other, low, low + wide - 1) <= number:
        wide = 2 * wide
    first = low
    last = low + wide - 1
    while first < last:
        middle = (first + last) // 2
        if differing_of(one, other, low, middle) <= number:
            first = middle + 1
        else:
            last = middle
    return first
