"""Rounded lines place by place: how their numbers grow."""

from pointorstrip.figures import check_between, check_from, check_numbers
from pointorstrip.rounded import Line


class Stepper:
    """A place of a line, that goes on and back."""

    def __init__(self, line, place):
        check_numbers([place])
        self.line = line
        # From each place to the next the number grows by this, and so much more is left over.
        self.rise, self.more = divmod(line.a, line.m)
        self.go(place)

    def __eq__(self, other):
        return isinstance(other, Stepper) and self.line == other.line and self.place == other.place

    def go(self, place):
        """Goes to a place."""
        self.place = place
        self.number, self.left = divmod(self.line.a * place + self.line.b, self.line.m)

    def state(self):
        """The place, the line's number there, and what is left over of m."""
        return (self.place, self.number, self.left)

    def step(self):
        """Goes to the next place; returns how far the number grows up to it."""
        grown = self.rise
        self.left = self.left + self.more
        if self.left >= self.line.m:
            self.left = self.left - self.line.m
            grown = grown + 1
        self.place = self.place + 1
        self.number = self.number + grown
        return grown

    def back(self):
        """Goes to the place ahead; returns how far the number grows from it."""
        grown = self.rise
        self.left = self.left - self.more
        if self.left < 0:
            self.left = self.left + self.line.m
            grown = grown + 1
        self.place = self.place - 1
        self.number = self.number - grown
        return grown

    def skip(self, many):
        """Goes on by many places, back if that is below 0."""
        check_numbers([many])
        self.go(self.place + many)

    def skip_to(self, number):
        """Goes to the least place at which the line has at least this number, and returns it.

        None if the line does not rise; then it stays.
        """
        check_numbers([number])
        if self.line.a <= 0:
            return None
        self.go(-((self.line.b - self.line.m * number) // self.line.a))
        return self.place


def check_places(low, many):
    """BadNumber for what is no number of places, then for a first place that is no number."""
    check_from(0, many)
    check_numbers([low])


def growths(line, low, many):
    """The list of how far the line grows from each of the many places from low on to the next."""
    check_places(low, many)
    stepper = Stepper(line, low)
    return [stepper.step() for _ in range(many)]


def runs_of(line, low, many):
    """As growths, the list of the pairs (growth, how often), neighbours unlike."""
    check_places(low, many)
    rise, more = divmod(line.a, line.m)
    less = line.m - more
    left = (line.a * low + line.b) % line.m
    runs = []
    while many > 0:
        # Told in one: so often more can come to what is left, or less be taken from it.
        grown = rise
        often = many
        if left >= less:
            grown = rise + 1
            often = min(many, left // less)
            left = left - often * less
        elif more:
            often = min(many, (line.m - 1 - left) // more)
            left = left + often * more
        runs.append((grown, often))
        many = many - often
    return runs


def slowed(line):
    """The Line whose number at k is the place, from 0 on, at which the line grows for the time k."""
    check_between(1, line.m, line.a)
    return Line(line.m, line.m - 1 - line.b % line.m, line.a)
