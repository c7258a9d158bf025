"""The few rows of a region that alone have no whole point already."""

from pointorstrip.deciding import decide
from pointorstrip.figures import check_size
from pointorstrip.judging import MOST_FIGURES, MOST_ROWS
from pointorstrip.moving import turn_to
from pointorstrip.outlines import Outline, column
from pointorstrip.papers import Empty, refutes
from pointorstrip.regions import Region


class Few:
    """Some rows, by their numbers, that have no whole point, as the paper shows.

    For each of them there is a point that keeps all the others.
    """

    def __init__(self, numbers, paper, points):
        self.numbers = tuple(numbers)
        self.paper = paper
        self.points = tuple(points)

    def __eq__(self, other):
        return (
            isinstance(other, Few) and self.numbers == other.numbers
            and self.paper == other.paper and self.points == other.points
        )

    def shows(self, region):
        """Whether it is so."""
        many = len(self.numbers)
        if many < 1 or many > 4 or len(self.points) != many:
            return False
        least = 0
        for number in self.numbers:
            if number < least or number >= len(region.rows):
                return False
            least = number + 1
        rows = [region.rows[number] for number in self.numbers]
        for at, (x, y) in enumerate(self.points):
            if not Region(rows[:at] + rows[at + 1:]).has(x, y):
                return False
        return refutes(self.paper, Region(rows))


def few(region):
    """The Few of a region; None if it has a whole point."""
    check_size(region.rows, [], MOST_ROWS, MOST_FIGURES)
    return few_of(region.rows)


def few_of(rows):
    """The Few of rows of any number and length; None if they have a whole point."""
    paper = decide(rows)
    if paper:
        return None
    behind = rows_behind(rows, paper)
    kept = behind
    points = []
    for number in behind:
        others = [at for at in kept if at != number]
        found = decide([rows[at] for at in others])
        if found:
            # It keeps all the rows that are left in the end, but for this one.
            points.append((found.x, found.y))
        else:
            kept = others
    return Few(kept, decide([rows[at] for at in kept]), points)


def rows_behind(rows, paper):
    """The ascending numbers of rows for which alone the paper shows, at the most twelve."""
    if isinstance(paper, Empty):
        return [at for at, weight in enumerate(paper.weights) if weight]
    turned = turn_to(paper.u, paper.v).rows_of(rows)
    outline = Outline(turned)
    numbers = [at for at, _ in outline.low_parts + outline.high_parts]
    first, last = outline.whole_ends()
    for x in range(first, last + 1):
        numbers = numbers + [end[1] for end in column(turned, x)]
    return sorted(set(numbers))
