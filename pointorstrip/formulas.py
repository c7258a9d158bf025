"""Conditions on whole x and y, and whether they hold for all of them."""

from math import lcm

from pointorstrip.deciding import decide
from pointorstrip.errors import PlaneError, TooLarge
from pointorstrip.figures import check_figures, is_number
from pointorstrip.papers import refutes
from pointorstrip.regions import Region, beyond

MOST_DEEP = 7
MOST_LEAVES = 12
MOST_MULTIPLE = 12
MOST_FIGURES = 40


class BadFormula(PlaneError):
    """The first part of a condition that is none, or lies too deep."""

    def __init__(self, part):
        super().__init__("this is no part of a condition")
        self.part = part


class Always:
    """A condition holds for all whole x and y: each way in which it can fail has a paper."""

    def __init__(self, papers):
        self.papers = {key: papers[key] for key in papers}

    def __bool__(self):
        return True

    def __eq__(self, other):
        return isinstance(other, Always) and self.papers == other.papers

    def shows(self, told):
        """Whether it is so."""
        ways = failings(told)
        if len(self.papers) != len(ways):
            return False
        for key in ways:
            if key not in self.papers or not refutes(self.papers[key], Region(ways[key])):
                return False
        return True


class Fails:
    """A condition does not hold at (x, y)."""

    def __init__(self, x, y):
        self.x = x
        self.y = y

    def __bool__(self):
        return False

    def __eq__(self, other):
        return isinstance(other, Fails) and self.x == other.x and self.y == other.y

    def shows(self, told):
        """Whether it is so."""
        return not holds(told, self.x, self.y)


def is_part(part):
    """Whether this is a condition by its own word, numbers and number of parts."""
    if not isinstance(part, tuple) or not part:
        return False
    word = part[0]
    numbers = len([number for number in part[1:] if is_number(number)])
    if word == "row":
        return len(part) == 4 and numbers == 3
    if word == "rest":
        return len(part) == 5 and numbers == 4 and part[4] >= 1
    if word == "not":
        return len(part) == 2
    return word in ("and", "or") and len(part) > 1


def inner_parts(part):
    """The conditions that a condition is made of."""
    return () if part[0] in ("row", "rest") else part[1:]


def check_part(part, deep):
    """BadFormula for the first part that is none or lies too deep; this one lies so deep."""
    if deep > MOST_DEEP or not is_part(part):
        raise BadFormula(part)
    for inner in inner_parts(part):
        check_part(inner, deep + 1)


def leaves_of(part):
    """The rows and rests of a condition, in their order."""
    if part[0] in ("row", "rest"):
        return [part]
    return [leaf for inner in inner_parts(part) for leaf in leaves_of(inner)]


def common_multiple(told):
    """The least common multiple of the m of all rests of a condition."""
    common = 1
    for leaf in leaves_of(told):
        if leaf[0] == "rest":
            common = lcm(common, leaf[4])
    return common


def check_condition(told):
    """BadFormula for what is no condition; then TooLarge."""
    check_part(told, 0)
    leaves = leaves_of(told)
    if len(leaves) > MOST_LEAVES:
        raise TooLarge(len(leaves))
    common = common_multiple(told)
    if common > MOST_MULTIPLE:
        raise TooLarge(common)
    check_figures([number for leaf in leaves for number in leaf[1:4]], MOST_FIGURES)


def holds(part, x, y):
    """Whether a condition holds at (x, y)."""
    word = part[0]
    if word == "row":
        return part[1] * x + part[2] * y <= part[3]
    if word == "rest":
        return (part[1] * x + part[2] * y - part[3]) % part[4] == 0
    if word == "not":
        return not holds(part[1], x, y)
    told = [holds(inner, x, y) for inner in inner_parts(part)]
    return all(told) if word == "and" else any(told)


def clauses(part, wanted, x, y):
    """The clauses of a condition's holding, or of its failing if that is wanted.

    Each is a list of rows; x and y have the rests on which the condition's rests hang.
    """
    word = part[0]
    if word == "row":
        row = part[1:]
        return [[row if wanted else beyond(row)]]
    if word == "rest":
        return [[]] if holds(part, x, y) == wanted else []
    if word == "not":
        return clauses(part[1], not wanted, x, y)
    told = [clauses(inner, wanted, x, y) for inner in inner_parts(part)]
    if (word == "or") == wanted:
        return [clause for found in told for clause in found]
    joined = [[]]
    for found in told:
        joined = [clause + more for clause in joined for more in found]
    return joined


def failings(told):
    """The rows of all ways in which a condition can fail, by rests of x and y and a number."""
    common = common_multiple(told)
    ways = {}
    for r in range(common):
        for s in range(common):
            for number, rows in enumerate(clauses(told, False, r, s)):
                ways[(r, s, number)] = [
                    (a * common, b * common, c - a * r - b * s) for a, b, c in rows
                ]
    return ways


def judge_always(told):
    """An Always if the condition holds for all whole x and y, otherwise a Fails."""
    check_condition(told)
    common = common_multiple(told)
    ways = failings(told)
    papers = {}
    for key in ways:
        found = decide(ways[key])
        if found:
            return Fails(key[0] + common * found.x, key[1] + common * found.y)
        papers[key] = found
    return Always(papers)


def judge_same(one, other):
    """What judge_always tells of both conditions' holding at the same places."""
    return judge_always(("and", ("or", ("not", one), other), ("or", one, ("not", other))))
