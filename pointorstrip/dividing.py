"""The cheapest program that divides all words by one number, and why no cheaper one does."""

from pointorstrip.agreeing import Agree, agree_of
from pointorstrip.deciding import decide
from pointorstrip.figures import check_between, is_number
from pointorstrip.moving import inverse
from pointorstrip.rounded import Line
from pointorstrip.shortcuts import Refusal, word_rows
from pointorstrip.words import Program, check_bits, is_word, price_of


class Wrong:
    """A word x that a mere shift does not divide."""

    def __init__(self, x):
        self.x = x

    def __eq__(self, other):
        return isinstance(other, Wrong) and self.x == other.x


class Torn:
    """Two words that are one if shifted ahead, with unlike quotients."""

    def __init__(self, one, other):
        self.one = one
        self.other = other

    def __eq__(self, other):
        return isinstance(other, Torn) and self.one == other.one and self.other == other.other


class Cheapest:
    """The plan with this key divides all words, and all plans that come ahead of it are refused.

    agreed shows that it does, for a key that multiplies; refused has the others by their keys.
    """

    def __init__(self, key, multiplier, agreed, refused):
        self.key = key
        self.multiplier = multiplier
        self.agreed = agreed
        self.refused = {other: refused[other] for other in refused}

    def __eq__(self, other):
        return (
            isinstance(other, Cheapest) and self.key == other.key
            and self.multiplier == other.multiplier and self.agreed == other.agreed
            and self.refused == other.refused
        )

    def program(self, bits):
        """The Program of the plan for words of so many bits."""
        return Program(bits, plan_steps(bits, self.key, self.multiplier))

    def shows(self, bits, divisor, prices):
        """Whether it is so."""
        keys = in_order(bits, prices)
        if self.key not in keys or not self._divides(bits, divisor):
            return False
        cheaper = keys[:keys.index(self.key)]
        if len(self.refused) != len(cheaper):
            return False
        for key in cheaper:
            if key not in self.refused or not refuses(self.refused[key], bits, divisor, key):
                return False
        return True

    def _divides(self, bits, divisor):
        """Whether the plan divides all words, and agreed shows it."""
        if self.key[0] == "right":
            if self.multiplier != 0 or self.agreed is not None:
                return False
            return divisor == 1 << self.key[2]
        least, most = multipliers(bits, self.key)
        if not fits(divisor, self.key) or not is_number(self.multiplier):
            return False
        if self.multiplier < least or self.multiplier > most or not isinstance(self.agreed, Agree):
            return False
        target, top, shift = quotients(bits, divisor, self.key)
        return self.agreed.shows(Line(self.multiplier, 0, 1 << shift), target, 0, top)


def plan_keys(bits):
    """The keys of all plans, in their order."""
    forms = [("right", 0), ("high", 0)] + [("ahead", ahead) for ahead in range(1, bits)]
    forms.append(("more", 0))
    return [(form, ahead, behind) for form, ahead in forms for behind in range(bits)]


def in_order(bits, prices):
    """The keys of all plans, the cheapest first, of one price in the order of the keys."""
    priced = [
        (price_of(plan_steps(bits, key, 0), prices), number, key)
        for number, key in enumerate(plan_keys(bits))
    ]
    return [key for _, _, key in sorted(priced)]


def plan_steps(bits, key, multiplier):
    """The steps of the plan with a key and a multiplier."""
    form, ahead, behind = key
    if form == "right":
        return [("right", 0, behind)]
    if form == "high":
        steps = [("high", 0, multiplier)]
    elif form == "ahead":
        steps = [("right", 0, ahead), ("high", 1, multiplier)]
    else:
        # The multiplier has a bit more than a word; half the way from the product of the others
        # to x, behind that product, is what this bit adds.
        steps = [
            ("high", 0, multiplier - (1 << bits)), ("less", 0, 1), ("right", 2, 1), ("add", 3, 1),
        ]
    if behind:
        steps.append(("right", len(steps), behind))
    return steps


def fits(divisor, key):
    """Whether words shifted ahead by the key's plan still tell their quotients."""
    return divisor % (1 << key[1]) == 0


def multipliers(bits, key):
    """The least and the greatest multiplier of the key's form."""
    word = 1 << bits
    return (word, 2 * word - 1) if key[0] == "more" else (0, word - 1)


def multiplier_rows(bits, key):
    """The rows of multipliers of the key's form without an offset."""
    least, most = multipliers(bits, key)
    return [(-1, 0, -least), (1, 0, most), (0, 1, 0), (0, -1, 0)]


def quotients(bits, divisor, key):
    """The line of the quotients of what the key's plan multiplies, its top, and the whole shift."""
    form, ahead, behind = key
    shift = bits + behind
    if form == "more":
        shift = shift + 1
    return (Line(1, 0, divisor >> ahead), (1 << (bits - ahead)) - 1, shift)


def telling_words(target, top):
    """The words that ask most of a multiplier without an offset, if 2 ** shift is above target.m.

    target is a line without an offset that rises by 1 at each multiple of m, m at most the top.
    """
    # All multiples of m ask for 2 ** shift / m at least, all other x for less. The last place of
    # each number t - 1, t m - 1, asks for (t 2 ** shift - 1) / (t m - 1) at most, so the last of
    # these places asks for least; the top, if the last number breaks off there, asks for no less.
    last = (top + 1) // target.m * target.m - 1
    return [(target.m, 0), (last, 1)]


def least_multiplier(rows):
    """The least multiplier for which all rows hold without an offset, None if there is none."""
    low = max([-(c // -a) for a, _, c in rows if a < 0])
    high = min([c // a for a, _, c in rows if a > 0])
    return low if low <= high else None


def try_plan(bits, divisor, key):
    """The pair of the least multiplier of a plan that divides all words, and what refuses it.

    One of both is None.
    """
    form, ahead, behind = key
    if form == "right":
        if divisor == 1 << behind:
            return (0, None)
        # The lesser one of both is the first to tell.
        return (None, Wrong(min(divisor, 1 << behind)))
    if not fits(divisor, key):
        return (None, Torn(divisor - 1, divisor))
    target, top, shift = quotients(bits, divisor, key)
    words = telling_words(target, top)
    rows = word_rows(target, shift, words) + multiplier_rows(bits, key)
    multiplier = least_multiplier(rows)
    if multiplier is None:
        return (None, Refusal(words, decide(rows)))
    return (multiplier, None)


def refuses(refusal, bits, divisor, key):
    """Whether this shows that the plan with the key does not divide all words."""
    if key[0] == "right":
        if not isinstance(refusal, Wrong) or not is_word(bits, refusal.x):
            return False
        return refusal.x >> key[2] != refusal.x // divisor
    if not fits(divisor, key):
        if not isinstance(refusal, Torn):
            return False
        one, other = refusal.one, refusal.other
        if not is_word(bits, one) or not is_word(bits, other) or one >> key[1] != other >> key[1]:
            return False
        return one // divisor != other // divisor
    if not isinstance(refusal, Refusal):
        return False
    target, top, shift = quotients(bits, divisor, key)
    return refusal.shows(target, top, shift, multiplier_rows(bits, key))


def check_divisor(bits, divisor):
    """BadNumber for what is no number of bits, or no word that divides."""
    check_bits(bits)
    check_between(1, (1 << bits) - 1, divisor)


def cheapest(bits, divisor, prices):
    """The Cheapest plan that divides all words of so many bits, prices being by steps' words."""
    check_divisor(bits, divisor)
    refused = {}
    for key in in_order(bits, prices):
        multiplier, refusal = try_plan(bits, divisor, key)
        if refusal is None:
            return Cheapest(key, multiplier, agreement(bits, divisor, key, multiplier), refused)
        refused[key] = refusal


def agreement(bits, divisor, key, multiplier):
    """The Agree of a plan that divides all words; None if it only shifts."""
    if key[0] == "right":
        return None
    target, top, shift = quotients(bits, divisor, key)
    return agree_of(Line(multiplier, 0, 1 << shift), target, 0, top)


def divisible(bits, divisor):
    """The Program whose answer is 1 for the words that the divisor divides, 0 for all others."""
    check_divisor(bits, divisor)
    twos = 0
    while divisor % (1 << (twos + 1)) == 0:
        twos = twos + 1
    word = 1 << bits
    factor = inverse(divisor >> twos, word)
    return Program(bits, [
        ("low", 0, factor), ("turn", 1, twos), ("most", 2, (word - 1) // divisor),
    ])
