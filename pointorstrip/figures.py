"""What a number is, and how many figures it has."""

from pointorstrip.errors import BadNumber, TooLarge


def is_number(value):
    """Whether the value is a number: an int that is no bool."""
    return isinstance(value, int) and not isinstance(value, bool)


def check_numbers(values):
    """BadNumber for the first of the values that is no number."""
    for value in values:
        if not is_number(value):
            raise BadNumber(value)


def check_from(least, value):
    """BadNumber for what is no number from the least one on."""
    if not is_number(value) or value < least:
        raise BadNumber(value)


def is_between(least, most, value):
    """Whether the value is a number from the least to the most."""
    return is_number(value) and least <= value <= most


def check_between(least, most, value):
    """BadNumber for what is no number from the least to the most."""
    if not is_between(least, most, value):
        raise BadNumber(value)


def is_pair(value):
    """Whether the value is a tuple of two numbers."""
    if not isinstance(value, tuple) or len(value) != 2:
        return False
    return is_number(value[0]) and is_number(value[1])


def power(base, exponent):
    """The base to an exponent from 0 on."""
    found = 1
    while exponent:
        if exponent & 1:
            found = found * base
        base = base * base
        exponent = exponent >> 1
    return found


def figures(number):
    """How many figures a number has, without its sign."""
    rest = abs(number)
    if rest < 10:
        return 1
    # Python refuses to write out very long numbers, so their bits are asked:
    # the factor is a little below the logarithm of 2, and the loop makes up for it.
    many = (rest.bit_length() - 1) * 301029995 // 1000000000
    bound = power(10, many)
    while bound <= rest:
        bound = bound * 10
        many = many + 1
    return many


def check_size(rows, others, most_rows, most_figures):
    """TooLarge for too many rows; otherwise for too long numbers in them or among the others."""
    if len(rows) > most_rows:
        raise TooLarge(len(rows))
    check_figures([number for row in rows for number in row] + others, most_figures)


def check_figures(numbers, most):
    """TooLarge with the figures of the longest number if they are above the most."""
    longest = figures(max([abs(number) for number in numbers], default=0))
    if longest > most:
        raise TooLarge(longest)
