"""The greatest value that a place and a rounded line's number there have together."""

from pointorstrip.rounded import Line


def greatest(one, other, line, top):
    """The pair (value, x): the greatest one x + other line.at(x) for x from 0 to top, and its x."""
    # Each level tells where its own greatest value is by the one of the next level,
    # whose places are this level's numbers; the way back goes up through them again.
    levels = []
    level = (one, other, line, top)
    while level is not None:
        levels.append(level)
        level = next_level(level)
    x = 0
    for at in range(len(levels) - 1, -1, -1):
        x = best_place(levels[at], x, at + 1 < len(levels))
    return (one * x + other * line.at(x), x)


def flattened(level):
    """The level (one, other, line, top) with the line from 0 below m at 0, rising less than 1.

    The values change by the same number everywhere.
    """
    one, other, line, top = level
    rise = line.a // line.m
    return (one + other * rise, other, Line(line.a % line.m, line.b % line.m, line.m), top)


def next_level(level):
    """The level over the numbers of this one's line; None if it has a single number.

    It matters where going on costs and each unit of the line pays, or the other way round.
    """
    one, other, line, top = flattened(level)
    numbers = line.at(top)
    if numbers == 0:
        return None
    if one < 0:
        # The first places of the numbers 1, 2 and so on.
        return (other, one, Line(line.m, line.m + line.a - 1 - line.b, line.a), numbers - 1)
    # The last places of the numbers 0, 1 and so on; that of the last number is the top.
    return (other, one, Line(line.m, line.m - 1 - line.b, line.a), numbers - 1)


def best_place(level, number, inner):
    """The place of the greatest value in a level, if the next level has it at a number."""
    one, other, line, top = flattened(level)
    places = [0, top]
    if inner:
        places.append(next_level(level)[2].at(number))
    values = [one * x + other * line.at(x) for x in places]
    return places[values.index(max(values))]
