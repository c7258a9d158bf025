"""Whether two rounded lines have the same numbers in a range, or one is above the other one.

A range is told by its least and its greatest place, None where it has no end.
"""

from pointorstrip.deciding import decide
from pointorstrip.errors import BadNumber
from pointorstrip.figures import check_figures, check_from, is_number
from pointorstrip.leasts import lowest
from pointorstrip.papers import refutes
from pointorstrip.regions import Region

MOST_FIGURES = 40


class Agree:
    """Both lines have the same numbers in the range: neither is above the other one."""

    def __init__(self, first, last):
        self.first = first
        self.last = last

    def __bool__(self):
        return True

    def __eq__(self, other):
        return isinstance(other, Agree) and self.first == other.first and self.last == other.last

    def shows(self, one, other, low, high):
        """Whether it is so."""
        if not refutes(self.first, Region(above_rows(one, other, low, high))):
            return False
        return refutes(self.last, Region(above_rows(other, one, low, high)))


class Differ:
    """The lines differ at x; ahead is an Agree for the places ahead of it, or None."""

    def __init__(self, x, ahead):
        self.x = x
        self.ahead = ahead

    def __bool__(self):
        return False

    def __eq__(self, other):
        return isinstance(other, Differ) and self.x == other.x and self.ahead == other.ahead

    def shows(self, one, other, low, high):
        """Whether it is so."""
        if not in_range(self.x, low, high) or one.at(self.x) == other.at(self.x):
            return False
        ends = ends_ahead(self.x, low, high)
        if ends is None:
            return self.ahead is None
        return isinstance(self.ahead, Agree) and self.ahead.shows(one, other, ends[0], ends[1])


class Below:
    """The one line is nowhere in the range above the other one."""

    def __init__(self, paper):
        self.paper = paper

    def __bool__(self):
        return True

    def __eq__(self, other):
        return isinstance(other, Below) and self.paper == other.paper

    def shows(self, one, other, low, high):
        """Whether it is so."""
        return refutes(self.paper, Region(above_rows(one, other, low, high)))


class Above:
    """The one line is above the other one at x."""

    def __init__(self, x):
        self.x = x

    def __bool__(self):
        return False

    def __eq__(self, other):
        return isinstance(other, Above) and self.x == other.x

    def shows(self, one, other, low, high):
        """Whether it is so."""
        return in_range(self.x, low, high) and one.at(self.x) > other.at(self.x)


class Within:
    """Neither line is above the other one raised by the gap, as two Belows show."""

    def __init__(self, first, last):
        self.first = first
        self.last = last

    def __bool__(self):
        return True

    def __eq__(self, other):
        return isinstance(other, Within) and self.first == other.first and self.last == other.last

    def shows(self, one, other, gap, low, high):
        """Whether it is so."""
        if not isinstance(self.first, Below) or not isinstance(self.last, Below):
            return False
        if not self.first.shows(one, other.raised(gap), low, high):
            return False
        return self.last.shows(other, one.raised(gap), low, high)


class Beyond:
    """The lines are further apart than the gap at x."""

    def __init__(self, x):
        self.x = x

    def __bool__(self):
        return False

    def __eq__(self, other):
        return isinstance(other, Beyond) and self.x == other.x

    def shows(self, one, other, gap, low, high):
        """Whether it is so."""
        return in_range(self.x, low, high) and abs(one.at(self.x) - other.at(self.x)) > gap


def in_range(x, low, high):
    """Whether the place x is in the range."""
    return (low is None or low <= x) and (high is None or x <= high)


def ends_ahead(x, low, high):
    """The ends of the range of the places ahead of x in a range's order; None if there are none."""
    if low is not None:
        ends = (low, x - 1)
    elif high is not None:
        ends = (x + 1, high)
    elif x > 0:
        ends = (1 - x, x - 1)
    else:
        ends = (x + 1, -x)
    return ends if ends[0] <= ends[1] else None


def end_rows(low, high):
    """The rows of the ends of a range, those that there are."""
    rows = []
    if low is not None:
        rows.append((-1, 0, -low))
    if high is not None:
        rows.append((1, 0, high))
    return rows


def above_rows(one, other, low, high):
    """The rows of the whole (x, y) of a range with y not above the one line, but above the other."""
    ends = end_rows(low, high)
    return ends + [(-one.a, one.m, one.b), (other.a, -other.m, -other.b - 1)]


def check_range(one, other, low, high):
    """BadNumber for what is no end of a range; then TooLarge for too long numbers."""
    for end in (low, high):
        if end is not None and not is_number(end):
            raise BadNumber(end)
    rows = above_rows(one, other, low, high)
    check_figures([number for row in rows for number in row], MOST_FIGURES)


def agree(one, other, low, high):
    """An Agree if the lines have the same numbers in the range, otherwise a Differ."""
    check_range(one, other, low, high)
    return agree_of(one, other, low, high)


def agree_of(one, other, low, high):
    """As agree, for numbers of any length."""
    first = decide(above_rows(one, other, low, high))
    last = decide(above_rows(other, one, low, high))
    if not first and not last:
        return Agree(first, last)
    places = []
    if first:
        places = places + first_places(above_rows(one, other, low, high), low, high)
    if last:
        places = places + first_places(above_rows(other, one, low, high), low, high)
    x = places[0]
    for place in places:
        ends = ends_ahead(x, low, high)
        if ends is not None and in_range(place, ends[0], ends[1]):
            x = place
    ends = ends_ahead(x, low, high)
    if ends is None:
        return Differ(x, None)
    return Differ(x, agree_of(one, other, ends[0], ends[1]))


def first_places(rows, low, high):
    """Places x of the rows, which have whole points, with the first one in the range's order."""
    if low is not None:
        return [lowest(rows, 1, 0).x]
    if high is not None:
        return [lowest(rows, -1, 0).x]
    found = [lowest(rows + [(-1, 0, 0)], 1, 0), lowest(rows + [(1, 0, -1)], -1, 0)]
    return [point.x for point in found if point]


def judge_below(one, other, low, high):
    """A Below if the one line is nowhere in the range above the other one, otherwise an Above."""
    check_range(one, other, low, high)
    found = decide(above_rows(one, other, low, high))
    return Above(found.x) if found else Below(found)


def judge_within(one, other, gap, low, high):
    """A Within if the lines are at most the gap apart in the range, otherwise a Beyond."""
    check_from(0, gap)
    check_range(one, other, low, high)
    first = decide(above_rows(one, other.raised(gap), low, high))
    last = decide(above_rows(other, one.raised(gap), low, high))
    if first:
        return Beyond(first.x)
    if last:
        return Beyond(last.x)
    return Within(Below(first), Below(last))
