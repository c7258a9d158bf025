"""Scripts: texts whose lines make regions and lines, and ask about them."""

from pointorstrip.agreeing import agree
from pointorstrip.books import Book, is_name
from pointorstrip.coins import greatest_unpaid, ways_to_pay
from pointorstrip.conditions import read_some, words_in
from pointorstrip.counting import count
from pointorstrip.dividing import cheapest
from pointorstrip.errors import PlaneError
from pointorstrip.formulas import judge_always
from pointorstrip.hulls import Hull, hull
from pointorstrip.leasts import First, Least, first, least
from pointorstrip.nearest import nearest
from pointorstrip.papers import Endless
from pointorstrip.ranks import point_at, rank
from pointorstrip.regiontexts import BadText, Reader, is_figures, read_relation, write_region
from pointorstrip.rounded import Line
from pointorstrip.shortcuts import shortcut
from pointorstrip.stairs import stairs

# What stands behind the first word of a line.
SHAPES = {
    "region": ("new",),
    "line": ("new", "number", "number", "from 1"),
    "put": ("region", "row"),
    "drop": ("region", "from 0"),
    "undo": (),
    "rows": ("region",),
    "judge": ("region",),
    "count": ("region",),
    "first": ("region",),
    "least": ("region", "number", "number"),
    "hull": ("region",),
    "at": ("region", "from 0"),
    "rank": ("region", "number", "number"),
    "near": ("region", "number", "number"),
    "agree": ("line", "line", "number"),
    "short": ("line", "from 1"),
    "stairs": ("number", "number", "numbers"),
    "always": ("condition",),
    "coins": ("from 1", "from 1", "number"),
    "divide": ("number", "number"),
}
RELATIONS = ("<=", ">=")
PRICES = {"high": 4, "right": 1, "less": 1, "add": 1}


class Script:
    """What the lines of a script have made: a Book of regions, and Lines by name."""

    def __init__(self):
        self.book = Book()
        self.lines = {}

    def has_region(self, name):
        """Whether there is a region with this name."""
        return name in self.book.names()

    def has_line(self, name):
        """Whether there is a line with this name."""
        return name in self.lines


def run_script(text):
    """The list of the lines that a script comes to."""
    if not isinstance(text, str):
        raise BadText(0, 0)
    script = Script()
    found = []
    for number, line in enumerate(text.split("\n"), start=1):
        words = words_in(line, number)
        if words and words[0][0][0] != "#":
            found.extend(run_line(script, Reader(words, number, len(line) + 1)))
    return found


def run_line(script, reader):
    """The list of the lines that a line of a script comes to."""
    word = reader.word()
    if word not in SHAPES:
        reader.fail()
    reader.step()
    values = []
    for kind in SHAPES[word]:
        values.append(read_value(script, reader, kind))
    reader.finish()
    action = ACTIONS[word]
    try:
        return action(script, values)
    except PlaneError:
        reader.fail_at(0)


def read_value(script, reader, kind):
    """Reads what is of a kind."""
    if kind in ("new", "region", "line"):
        return read_name(script, reader, kind)
    if kind == "row":
        return read_line_row(reader)
    if kind == "condition":
        return read_some(reader, 0)
    if kind == "numbers":
        numbers = []
        while reader.word() is not None:
            numbers.append(read_number(reader, None))
        return numbers
    if kind == "from 0":
        return read_number(reader, 0)
    return read_number(reader, 1 if kind == "from 1" else None)


def read_name(script, reader, kind):
    """Reads a new name, or one that is there as a region or as a line."""
    name = reader.word()
    if kind == "new":
        stands = is_name(name) and not script.has_region(name) and not script.has_line(name)
    elif kind == "region":
        stands = script.has_region(name)
    else:
        stands = script.has_line(name)
    if not stands:
        reader.fail()
    reader.step()
    return name


def read_number(reader, lowest):
    """Reads a number, which is not below the lowest one, if there is one."""
    place = reader.place
    sign = -1 if reader.takes("-") else 1
    word = reader.word()
    if not is_figures(word):
        reader.fail()
    number = sign * int(word)
    if lowest is not None and number < lowest:
        reader.fail_at(place)
    reader.step()
    return number


def read_line_row(reader):
    """Reads a line row."""
    relation, a, b, c = read_relation(reader, RELATIONS)
    return (a, b, c) if relation == "<=" else (-a, -b, -c)


def point_text(x, y):
    """The text of a point."""
    return f"({x}, {y})"


def begin_region(script, values):
    """A region without rows."""
    script.book.begin(values[0], [])
    return []


def begin_line(script, values):
    """A Line."""
    name, a, b, m = values
    script.lines[name] = Line(a, b, m)
    return []


def put_row(script, values):
    """A row more in a region."""
    name, row = values
    script.book.put(name, row)
    return []


def drop_row(script, values):
    """A row less in a region."""
    name, number = values
    script.book.drop(name, number)
    return []


def undo_edit(script, _):
    """The last edit taken back."""
    return [] if script.book.undo() else ["nothing to undo"]


def tell_rows(script, values):
    """The rows of a region."""
    region = script.book.region(values[0])
    return write_region(region).split("\n") if region.rows else []


def tell_judgement(script, values):
    """Whether a region has a whole point."""
    return ["some" if script.book.told(values[0]) else "none"]


def tell_count(script, values):
    """How many whole points a region has."""
    many = count(script.book.region(values[0]))
    return ["without end" if many is None else str(many)]


def tell_first(script, values):
    """The first point of a region."""
    found = first(script.book.region(values[0]))
    return [point_text(found.x, found.y) if isinstance(found, First) else missing(found)]


def tell_least(script, values):
    """The least value in a region."""
    name, u, v = values
    found = least(script.book.region(name), u, v)
    return [str(found.value) if isinstance(found, Least) else missing(found)]


def tell_hull(script, values):
    """The corners of a region's hull."""
    found = hull(script.book.region(values[0]))
    if not isinstance(found, Hull):
        return [missing(found)]
    return [" ".join([point_text(x, y) for x, y in found.corners])]


def missing(found):
    """The text of an Endless, or of a paper that shows that there is no whole point."""
    return "without end" if isinstance(found, Endless) else "none"


def tell_point(script, values):
    """The point of a region with a number."""
    name, number = values
    point = point_at(script.book.region(name), number)
    return ["none" if point is None else point_text(point[0], point[1])]


def tell_rank(script, values):
    """The number of a point of a region."""
    name, x, y = values
    number = rank(script.book.region(name), x, y)
    return ["none" if number is None else str(number)]


def tell_nearest(script, values):
    """How far the nearest point of a region is, by the sum."""
    name, x, y = values
    found = nearest(script.book.region(name), x, y, "sum")
    return [str(found.far) if found else "none"]


def tell_agreement(script, values):
    """Whether two lines agree from a place on."""
    one, other, low = values
    found = agree(script.lines[one], script.lines[other], low, None)
    return ["always" if found else f"not at {found.x}"]


def tell_shortcut(script, values):
    """The cheapest shortcut for a line up to a top."""
    name, top = values
    found = shortcut(script.lines[name], top)
    return [f"shift {found.shift} times {found.multiplier} plus {found.offset}"]


def tell_stairs(_, values):
    """The line that has some numbers."""
    one, other, more = values
    found = stairs([one, other] + more)
    if not found:
        return ["crooked"]
    return [f"line {found.line.a} {found.line.b} {found.line.m}"]


def tell_always(_, values):
    """Whether a condition holds everywhere."""
    return ["always" if judge_always(values[0]) else "not always"]


def tell_coins(_, values):
    """In how many ways two coins pay an amount, and the greatest one that they don't pay."""
    one, other, amount = values
    ways = ways_to_pay(one, other, amount)
    found = greatest_unpaid(one, other)
    last = "none last" if found is None else f"last {found.amount}"
    return [f"{ways} ways, {last}"]


def tell_division(_, values):
    """The cheapest plan that divides all words of some bits."""
    bits, divisor = values
    found = cheapest(bits, divisor, dict(PRICES))
    form, ahead, behind = found.key
    return [f"{form} {ahead} {behind} by {found.multiplier}"]


ACTIONS = {
    "region": begin_region,
    "line": begin_line,
    "put": put_row,
    "drop": drop_row,
    "undo": undo_edit,
    "rows": tell_rows,
    "judge": tell_judgement,
    "count": tell_count,
    "first": tell_first,
    "least": tell_least,
    "hull": tell_hull,
    "at": tell_point,
    "rank": tell_rank,
    "near": tell_nearest,
    "agree": tell_agreement,
    "short": tell_shortcut,
    "stairs": tell_stairs,
    "always": tell_always,
    "coins": tell_coins,
    "divide": tell_division,
}
