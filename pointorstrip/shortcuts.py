"""The cheapest multiply-and-shift that is right for all numbers up to a top."""

from pointorstrip.agreeing import Agree, agree_of
from pointorstrip.deciding import decide
from pointorstrip.extremes import greatest
from pointorstrip.fewrows import few_of
from pointorstrip.figures import check_figures, check_from
from pointorstrip.leasts import lowest
from pointorstrip.papers import refutes
from pointorstrip.regions import Region
from pointorstrip.rounded import Line

MOST_FIGURES = 30


class Refusal:
    """Why no shortcut has a shift: what at most four words ask has no whole point already."""

    def __init__(self, words, paper):
        self.words = tuple(words)
        self.paper = paper

    def __eq__(self, other):
        return (
            isinstance(other, Refusal) and self.words == other.words
            and self.paper == other.paper
        )

    def shows(self, target, top, shift, more):
        """Whether it is so, for the words' rows and then some rows more."""
        if len(self.words) > 4 or shift < 0:
            return False
        for x, which in self.words:
            if x < 0 or x > top or which not in (0, 1):
                return False
        return refutes(self.paper, Region(word_rows(target, shift, self.words) + list(more)))


class Shortcut:
    """(multiplier x + offset) >> shift is the target's number at all x from 0 to the top.

    No shortcut has a lesser shift, with this one a lesser multiplier, with both a lesser offset.
    """

    def __init__(self, shift, multiplier, offset, agreed, refused):
        self.shift = shift
        self.multiplier = multiplier
        self.offset = offset
        self.agreed = agreed
        self.refused = tuple(refused)

    def __eq__(self, other):
        return (
            isinstance(other, Shortcut) and self.shift == other.shift
            and self.multiplier == other.multiplier and self.offset == other.offset
            and self.agreed == other.agreed and self.refused == other.refused
        )

    def line(self):
        """The rounded line of the shortcut."""
        return Line(self.multiplier, self.offset, 1 << self.shift)

    def shows(self, target, top):
        """Whether it is so."""
        if self.shift < 0 or not isinstance(self.agreed, Agree) or len(self.refused) != 3:
            return False
        if not self.agreed.shows(self.line(), target, 0, top):
            return False
        if self.shift == 0:
            if self.refused[0] is not None:
                return False
        elif not refuses(self.refused[0], target, top, self.shift - 1, []):
            return False
        less, lower = lesser_rows(self.multiplier, self.offset)
        if not refuses(self.refused[1], target, top, self.shift, less):
            return False
        return refuses(self.refused[2], target, top, self.shift, lower)


def refuses(refusal, target, top, shift, more):
    """Whether this is a Refusal that shows."""
    return isinstance(refusal, Refusal) and refusal.shows(target, top, shift, more)


def lesser_rows(multiplier, offset):
    """The rows of lesser multipliers, and those of no greater ones with lesser offsets."""
    return ([(1, 0, multiplier - 1)], [(1, 0, multiplier), (0, 1, offset - 1)])


def word_rows(target, shift, words):
    """The rows that the words ask of a multiplier and an offset."""
    rows = []
    for x, which in words:
        least = target.at(x) << shift
        if which == 0:
            rows.append((-x, -1, -least))
        else:
            rows.append((x, 1, least + (1 << shift) - 1))
    return rows


def outer_places(target, top, sign):
    """The x from 0 to top at corners of the hull of the target's points, above it for sign 1.

    For sign -1 below it. What the other places ask follows from what these do.
    """
    places = [0]
    ahead = [top]
    while ahead:
        x, end = places[-1], ahead[-1]
        # Across the way from here to the end, to its outer side.
        one = sign * (target.at(x) - target.at(end))
        other = sign * (end - x)
        value, place = greatest(one, other, target, top)
        if value > one * x + other * target.at(x):
            ahead.append(place)
        else:
            places.append(ahead.pop())
    return places


def least_shift(target, top, words):
    """The least shift with which the words' rows have a whole point."""
    low = 0
    high = (target.m * (top + 1)).bit_length()
    while low < high:
        middle = (low + high) // 2
        if decide(word_rows(target, middle, words)):
            high = middle
        else:
            low = middle + 1
    return low


def refusal_of(target, shift, words, more):
    """The Refusal of words whose rows, with more rows, have no whole point."""
    rows = word_rows(target, shift, words) + more
    kept = [words[at] for at in few_of(rows).numbers if at < len(words)]
    return Refusal(kept, decide(word_rows(target, shift, kept) + more))


def shortcut(target, top):
    """The Shortcut with the least shift and the least offset for the target from 0 to the top."""
    check_from(1, top)
    check_figures([target.a, target.b, target.m, top], MOST_FIGURES)
    words = [(x, 0) for x in outer_places(target, top, 1)]
    words = words + [(x, 1) for x in outer_places(target, top, -1)]
    shift = least_shift(target, top, words)
    found = lowest(word_rows(target, shift, words), 0, 1)
    agreed = agree_of(Line(found.x, found.y, 1 << shift), target, 0, top)
    less, lower = lesser_rows(found.x, found.y)
    refused = [
        refusal_of(target, shift - 1, words, []) if shift else None,
        refusal_of(target, shift, words, less),
        refusal_of(target, shift, words, lower),
    ]
    return Shortcut(shift, found.x, found.y, agreed, refused)
