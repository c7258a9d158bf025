"""How many whole points a region has."""

from pointorstrip.deciding import decide
from pointorstrip.figures import check_from, check_numbers, check_size
from pointorstrip.leasts import MOST_FIGURES, MOST_ROWS
from pointorstrip.outlines import Outline
from pointorstrip.ratios import ceil_of


def total(a, b, m, many):
    """The sum of (a i + b) // m over i from 0 below many."""
    check_numbers([a, b, m, many])
    check_from(1, m)
    check_from(0, many)
    found = 0
    while many > 0:
        found = found + many * (many - 1) // 2 * (a // m) + many * (b // m)
        a = a % m
        b = b % m
        # What is left counts the whole points below a line; seen from its other end,
        # x and y exchanged, these are the points below a line with a and m exchanged.
        end = a * many + b
        many = end // m
        b = end % m
        a, m = m, a
    return found


def count(region):
    """How many whole points are in the region; None if they have no end."""
    check_size(region.rows, [], MOST_ROWS, MOST_FIGURES)
    return count_of(region.rows)


def count_of(rows):
    """As count, for rows of any number and length."""
    outline = Outline(rows)
    if outline.weights is not None:
        return 0
    if not outline.is_bounded():
        return None if decide(rows) else 0
    first, last = outline.whole_ends()
    # Both bounds of y are told from the middle outwards; between them is one y more.
    over = chain_total(outline.uppers, first, last)
    under = chain_total(outline.lowers, first, last)
    return over + under + last - first + 1


def chain_total(chain, first, last):
    """The sum of the greatest whole y that a chain of lines allows at whole x from first to last."""
    found = 0
    for at, (line, start) in enumerate(chain):
        a, b, c, _ = line
        low = first if start is None else max(first, ceil_of(start))
        high = last
        if at + 1 < len(chain):
            high = min(last, ceil_of(chain[at + 1][1]) - 1)
        if low <= high:
            found = found + total(-a, c - a * low, b, high - low + 1)
    return found
