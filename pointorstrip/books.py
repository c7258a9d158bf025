"""Regions by name, that grow and shrink and are judged again only where it is needed."""

from pointorstrip.errors import BadNumber, BadRegion, PlaneError
from pointorstrip.figures import check_size, is_between
from pointorstrip.judging import MOST_FIGURES, MOST_ROWS, judge
from pointorstrip.papers import Empty
from pointorstrip.regions import Region, is_line_row

MOST_LETTERS = 8


class BadName(PlaneError):
    """What is no name, is there already, or is not there, as it is asked."""

    def __init__(self, name):
        super().__init__("this name cannot stand here")
        self.name = name


class Entry:
    """A region, what judge told of it, and how often it was asked."""

    def __init__(self, region):
        self.region = region
        self.paper = judge(region)
        self.times = 1

    def put(self, number, row):
        """Puts a row in, so that it has this number."""
        rows = self.region.rows
        if isinstance(self.paper, Empty):
            weights = self.paper.weights
            self.paper = Empty(weights[:number] + (0,) + weights[number:])
        self.change(rows[:number] + (row,) + rows[number:])

    def leave_out(self, number):
        """Leaves the row with this number out."""
        rows = self.region.rows
        if isinstance(self.paper, Empty) and self.paper.weights[number] == 0:
            weights = self.paper.weights
            self.paper = Empty(weights[:number] + weights[number + 1:])
        self.change(rows[:number] + rows[number + 1:])

    def change(self, rows):
        """Takes the rows, and has them judged if what was told does not show for them."""
        self.region = Region(rows)
        if not self.paper.shows(self.region):
            self.paper = judge(self.region)
            self.times = self.times + 1


class Book:
    """Regions by name. Each edit, begin, put or drop, can be taken back, the last one first."""

    def __init__(self):
        self.entries = {}
        # Tuples (word, name, number, row) of the edits that were not taken back.
        self.edits = []

    def begin(self, name, rows):
        """A new region."""
        if not is_name(name) or name in self.entries:
            raise BadName(name)
        self.entries[name] = Entry(Region(rows))
        self.edits.append(("begin", name, None, None))

    def put(self, name, row):
        """A row behind the others of a region."""
        entry = self.entry(name)
        rows = entry.region.rows
        if not is_line_row(row):
            raise BadRegion(len(rows))
        check_size(rows + (row,), [], MOST_ROWS, MOST_FIGURES)
        entry.put(len(rows), row)
        self.edits.append(("put", name, len(rows), row))

    def drop(self, name, number):
        """Leaves out the row of a region with this number."""
        entry = self.entry(name)
        rows = entry.region.rows
        if not is_between(0, len(rows) - 1, number):
            raise BadNumber(number)
        entry.leave_out(number)
        self.edits.append(("drop", name, number, rows[number]))

    def undo(self):
        """Takes the last edit back, and tells whether there was one."""
        if not self.edits:
            return False
        word, name, number, row = self.edits.pop()
        if word == "begin":
            self.entries.pop(name)
        elif word == "put":
            self.entry(name).leave_out(number)
        else:
            self.entry(name).put(number, row)
        return True

    def names(self):
        """The ascending tuple of the names."""
        return tuple(sorted(self.entries))

    def region(self, name):
        """The region with this name, as it is now."""
        return Region(self.entry(name).region.rows)

    def told(self, name):
        """What judge tells of the region, or told of it earlier and still shows."""
        return self.entry(name).paper

    def judged(self, name):
        """How often the region was judged since it was begun."""
        return self.entry(name).times

    def common(self, names):
        """A pair (x, y) in all these regions, or a paper for their rows one behind the other."""
        rows = []
        for name in names:
            rows.extend(self.entry(name).region.rows)
        found = judge(Region(rows))
        return (found.x, found.y) if found else found

    def entry(self, name):
        """The Entry with this name; BadName if there is none."""
        if not is_name(name) or name not in self.entries:
            raise BadName(name)
        return self.entries[name]


def is_name(value):
    """Whether this is a name: 1 to 8 small letters."""
    if not isinstance(value, str) or len(value) > MOST_LETTERS:
        return False
    return value.isascii() and value.isalpha() and value.islower()
