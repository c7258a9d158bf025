"""Programs over words: numbers of some bits."""

from pointorstrip.errors import BadNumber, PlaneError
from pointorstrip.figures import check_between, is_between

LEAST_BITS = 2
MOST_BITS = 64
MOST_STEPS = 20

SHIFTS = ("right", "left", "turn")
PRODUCTS = ("high", "low", "most")
SUMS = ("add", "less")


class BadStep(PlaneError):
    """Steps that make no program: None, or the number of the first that is no step."""

    def __init__(self, number):
        super().__init__("these steps make no program")
        self.number = number


class Program:
    """Steps that each make a register more of those ahead; the last one is the answer."""

    def __init__(self, bits, steps):
        check_bits(bits)
        if not isinstance(steps, (list, tuple)) or len(steps) > MOST_STEPS:
            raise BadStep(None)
        for number, step in enumerate(steps):
            if not is_step(bits, number, step):
                raise BadStep(number)
        self.bits = bits
        self.steps = tuple(steps)

    def __eq__(self, other):
        return isinstance(other, Program) and self.bits == other.bits and self.steps == other.steps

    def run(self, x):
        """The answer for the word x."""
        if not is_word(self.bits, x):
            raise BadNumber(x)
        registers = [x]
        for step in self.steps:
            registers.append(made_by(self.bits, step, registers))
        return registers[-1]

    def price(self, prices):
        """The sum of the prices of the steps' first parts, 0 for those that lack."""
        return price_of(self.steps, prices)


def check_bits(bits):
    """BadNumber for what is no number of bits that words may have."""
    check_between(LEAST_BITS, MOST_BITS, bits)


def is_word(bits, value):
    """Whether the value is a word of so many bits."""
    return is_between(0, (1 << bits) - 1, value)


def is_step(bits, number, step):
    """Whether this is a step, if registers from 0 to the number are there."""
    if not isinstance(step, tuple) or len(step) != 3 or not is_between(0, number, step[1]):
        return False
    word, _, last = step
    if word in SHIFTS:
        return is_between(0, bits - 1, last)
    if word in PRODUCTS:
        return is_word(bits, last)
    return word in SUMS and is_between(0, number, last)


def made_by(bits, step, registers):
    """The word that a step makes of the registers."""
    word, at, last = step
    x = registers[at]
    if word in SHIFTS:
        return shifted(bits, word, x, last)
    if word in PRODUCTS:
        return multiplied(bits, word, x, last)
    other = registers[last]
    return (x + other if word == "add" else x - other) % (1 << bits)


def shifted(bits, word, x, many):
    """The word x, shifted by so many bits."""
    right = x >> many
    if word == "right":
        return right
    if word == "left":
        return (x << many) % (1 << bits)
    return right | ((x << (bits - many)) % (1 << bits))


def multiplied(bits, word, x, number):
    """One of the two halves of a product, or whether x is at most the number."""
    if word == "high":
        return (x * number) >> bits
    if word == "low":
        return (x * number) % (1 << bits)
    return 1 if x <= number else 0


def price_of(steps, prices):
    """The sum of the prices of the steps' first parts, 0 for those that lack."""
    return sum([prices.get(step[0], 0) for step in steps])
