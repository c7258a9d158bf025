"""The cheapest program that divides all words ([26], [27]), and which words are divided ([28])."""

import unittest

from pointorstrip.agreeing import Agree, agree
from pointorstrip.dividing import Cheapest, Torn, Wrong, cheapest, divisible
from pointorstrip.errors import BadNumber
from pointorstrip.papers import Empty, Point, Thin
from pointorstrip.rounded import Line
from pointorstrip.shortcuts import Refusal
from pointorstrip.words import Program
from trying import check_equality, generator

PRICES = {"high": 4, "right": 1, "less": 1, "add": 1}

SOME_PRICES = (
    {}, PRICES, {"high": 0, "right": 0, "less": 0, "add": 0}, {"high": 1, "right": 1},
    {"right": -1, "high": 2}, {"right": 5}, {"right": 5, "high": -3, "less": 1}, {"less": -2},
    {"less": -5, "right": 3}, {"add": -1, "right": 1, "high": 1}, {"high": 5, "right": 20},
    {"right": -10 ** 30}, {"low": 7, "turn": -8, "most": 3, "left": -1},
)


def keys_of(bits):
    """The keys of all plans, as the document lists them."""
    keys = [("right", 0, behind) for behind in range(bits)]
    keys += [("high", 0, behind) for behind in range(bits)]
    keys += [("ahead", ahead, behind) for ahead in range(1, bits) for behind in range(bits)]
    return keys + [("more", 0, behind) for behind in range(bits)]


def price_of(key, prices):
    form, _, behind = key
    words = {"right": ["right"], "high": ["high"], "ahead": ["right", "high"],
             "more": ["high", "less", "right", "add"]}[form]
    if behind and form != "right":
        words = words + ["right"]
    return sum(prices.get(word, 0) for word in words)


def plan_at(bits, key, multiplier, x):
    """What a plan makes of a word, as the document tells it."""
    form, ahead, behind = key
    if form == "right":
        return x >> behind
    if form == "high":
        return ((x * multiplier) >> bits) >> behind
    if form == "ahead":
        return (((x >> ahead) * multiplier) >> bits) >> behind
    t = (x * (multiplier - 2 ** bits)) >> bits
    return (((x - t) >> 1) + t) >> behind


def range_of(bits, form):
    if form == "right":
        return [0]
    return range(2 ** bits, 2 ** (bits + 1)) if form == "more" else range(2 ** bits)


def least_multiplier(bits, divisor, key):
    """The least multiplier with which a plan divides all words, all being tried."""
    for multiplier in range_of(bits, key[0]):
        if all(plan_at(bits, key, multiplier, x) == x // divisor for x in range(2 ** bits)):
            return multiplier
    return None


def form_rows(bits, key):
    low, high = (2 ** bits, 2 ** (bits + 1) - 1) if key[0] == "more" else (0, 2 ** bits - 1)
    return [(-1, 0, -low), (1, 0, high), (0, 1, 0), (0, -1, 0)]


class CheapestTest(unittest.TestCase):
    def check(self, bits, divisor, prices):
        """cheapest(..), held against what the document says of it, but for its being there."""
        found = cheapest(bits, divisor, prices)
        self.assertIsInstance(found, Cheapest)
        self.assertTrue(found)
        self.assertIs(found.shows(bits, divisor, prices), True)
        keys = keys_of(bits)
        self.assertIn(found.key, keys)
        form, ahead, behind = found.key
        if form == "right":
            self.assertEqual((found.multiplier, found.agreed, divisor), (0, None, 2 ** behind))
        else:
            shift = bits + behind + (form == "more")
            self.assertEqual(divisor % 2 ** ahead, 0)
            self.assertIsInstance(found.agreed, Agree)
            self.assertIs(found.agreed.shows(
                Line(found.multiplier, 0, 2 ** shift), Line(1, 0, divisor >> ahead),
                0, 2 ** (bits - ahead) - 1), True)
        place = (price_of(found.key, prices), keys.index(found.key))
        cheaper = [key for at, key in enumerate(keys) if (price_of(key, prices), at) < place]
        self.assertIs(type(found.refused), dict)
        self.assertEqual(sorted(found.refused), sorted(cheaper))
        for key in cheaper:
            self.check_refusal(bits, divisor, key, found.refused[key])
        self.check_program(found, bits, divisor, prices)
        return found

    def check_refusal(self, bits, divisor, key, refusal):
        form, ahead, behind = key
        if form == "right":
            self.assertIsInstance(refusal, Wrong)
            self.assertTrue(0 <= refusal.x < 2 ** bits)
            self.assertNotEqual(refusal.x >> behind, refusal.x // divisor)
        elif divisor % 2 ** ahead:
            self.assertIsInstance(refusal, Torn)
            self.assertTrue(0 <= refusal.one < 2 ** bits and 0 <= refusal.other < 2 ** bits)
            self.assertEqual(refusal.one >> ahead, refusal.other >> ahead)
            self.assertNotEqual(refusal.one // divisor, refusal.other // divisor)
        else:
            self.assertIsInstance(refusal, Refusal)
            shift = bits + behind + (form == "more")
            self.assertIs(refusal.shows(Line(1, 0, divisor >> ahead), 2 ** (bits - ahead) - 1,
                                        shift, form_rows(bits, key)), True)

    def check_program(self, found, bits, divisor, prices):
        program = found.program(bits)
        self.assertIsInstance(program, Program)
        self.assertEqual(program.bits, bits)
        self.assertEqual(program.price(prices), price_of(found.key, prices))
        words = range(2 ** bits) if bits < 9 else (
            0, 1, divisor - 1, divisor, 2 ** bits - 1, 2 ** bits // divisor * divisor - 1,
            (2 ** bits - 1) // divisor * divisor, 2 ** (bits - 1), 2 ** (bits - 1) - 1,
        )
        for x in words:
            self.assertEqual(program.run(x), x // divisor, (bits, divisor, found.key, x))

    def test_against_trying_all_plans(self):
        forms = set()
        for bits in (2, 3, 4, 5):
            for divisor in range(1, 2 ** bits):
                told = {key: least_multiplier(bits, divisor, key) for key in keys_of(bits)}
                keys = [key for key in told if told[key] is not None]
                for prices in SOME_PRICES:
                    found = self.check(bits, divisor, prices)
                    key = min(keys, key=lambda key: (price_of(key, prices), keys.index(key)))
                    self.assertEqual(found.key, key, (bits, divisor, prices))
                    self.assertEqual(found.multiplier, told[key], (bits, divisor, key))
                    forms.add((bits, key[0]))
        # Words of two bits need no shift ahead.
        self.assertEqual(len(forms), 15)

    def test_all_divisors_of_bytes(self):
        for divisor in range(1, 256):
            found = self.check(8, divisor, PRICES)
            if divisor & (divisor - 1) == 0:
                self.assertEqual(found.key, ("right", 0, divisor.bit_length() - 1))
            self.assertEqual(found.multiplier, least_multiplier(8, divisor, found.key))

    def test_known_ones(self):
        for bits, divisor, key, multiplier in (
            (32, 3, ("high", 0, 1), 0xAAAAAAAB), (32, 5, ("high", 0, 2), 0xCCCCCCCD),
            (32, 10, ("high", 0, 3), 0xCCCCCCCD), (32, 641, ("high", 0, 0), 6700417),
            (32, 7, ("more", 0, 2), 0x124924925), (64, 3, ("high", 0, 1), 0xAAAAAAAAAAAAAAAB),
            (64, 10, ("high", 0, 3), 0xCCCCCCCCCCCCCCCD), (64, 7, ("more", 0, 2), 0x12492492492492493),
            (16, 7, ("more", 0, 2), 0x12493), (64, 1, ("right", 0, 0), 0), (8, 128, ("right", 0, 7), 0),
            (64, 2 ** 63, ("right", 0, 63), 0),
        ):
            found = self.check(bits, divisor, PRICES)
            self.assertEqual((found.key, found.multiplier), (key, multiplier))
        # An even divisor whose half needs fewer bits: shifting ahead is cheaper than a long M.
        found = self.check(32, 14, PRICES)
        self.assertEqual((found.key, found.multiplier), (("ahead", 1, 2), 0x92492493))

    def test_long_words(self):
        for bits in (8, 16, 32, 64):
            word = 2 ** bits - 1
            for divisor in (1, 2, 3, 6, 7, 14, 28, 60, 100, 2 ** (bits - 1), 2 ** (bits - 1) + 1,
                            word - 1, word):
                for prices in ({}, PRICES, {"right": -1, "high": 1}):
                    self.check(bits, divisor, prices)

    def test_order_of_one_price(self):
        # Without prices the keys' own order tells.
        self.assertEqual(self.check(8, 4, {}).key, ("right", 0, 2))
        self.assertEqual(self.check(8, 3, {}).key, ("high", 0, 1))
        self.assertEqual(self.check(8, 5, {}).key, ("high", 0, 2))
        # Where right costs, what shifts by nothing behind the product comes first.
        self.assertEqual(self.check(8, 4, {"right": 1}).key, ("high", 0, 0))
        self.assertEqual(self.check(8, 4, {"right": 1}).multiplier, 64)
        # Where right pays, ahead comes with a shift behind, by the least ahead.
        self.assertEqual(self.check(8, 6, {"right": -1}).key, ("ahead", 1, 1))
        self.assertEqual(self.check(8, 12, {"right": -1}).key, ("ahead", 1, 1))
        self.assertEqual(self.check(8, 4, {"right": -1}).key, ("more", 0, 1))
        self.assertEqual(self.check(8, 1, {"right": 9}).key, ("right", 0, 0))
        self.assertEqual(self.check(8, 7, {"high": -1}).key, ("more", 0, 2))

    def test_shows(self):
        for divisor, prices in ((6, {"right": 1}), (7, PRICES), (14, PRICES), (4, {}), (28, {})):
            found = cheapest(8, divisor, prices)
            parts = [found.key, found.multiplier, found.agreed, found.refused]
            self.assertIs(Cheapest(*parts).shows(8, divisor, prices), True)
            self.assertIs(Cheapest(*parts).shows(8, divisor + 1, prices), False)
            self.assertIs(Cheapest(*parts).shows(9, divisor, prices), found.key[0] == "right")
            form, ahead, behind = found.key
            for key in (
                (form, ahead, behind + 1), (form, ahead, behind - 1), (form, ahead + 1, behind),
                ("right", 0, 8), ("right", 0, -1), ("right", 1, 2), ("high", 1, 2), ("ahead", 0, 1),
                ("ahead", 8, 1), ("more", 0, 8), ("more", 1, 2), ("most", 0, 1), (form, ahead), None,
                "right", [form, ahead, behind],
            ):
                if key != found.key:
                    told = Cheapest(key, *parts[1:])
                    self.assertIs(told.shows(8, divisor, prices), False, (divisor, key))
            for at, part in ((1, -1), (1, 10 ** 9), (1, None), (2, Thin(1, 0)), (2, Agree(None, None))):
                told = list(parts)
                told[at] = part
                self.assertIs(Cheapest(*told).shows(8, divisor, prices), False, (divisor, at, part))
            self.check_refused(found, divisor, prices)

    def check_refused(self, found, divisor, prices):
        """Evidence with one refusal bent does not show."""
        parts = [found.key, found.multiplier, found.agreed]

        def shows(refused):
            return Cheapest(*parts, refused).shows(8, divisor, prices)

        self.assertIs(shows({}), not found.refused)
        self.assertIs(shows({**found.refused, found.key: Wrong(0)}), False)
        self.assertIs(shows({**found.refused, ("more", 0, 7): Wrong(0)}), False)
        for key, refusal in found.refused.items():
            less = {other: found.refused[other] for other in found.refused if other != key}
            self.assertIs(shows(less), False)
            self.assertIs(shows({**less, ("right", 0, 9): refusal}), False)
            bent = [None, Wrong(0), Torn(0, 0), Torn(0, 1), Refusal((), Thin(1, 0)), Point(0, 0)]
            if isinstance(refusal, Wrong):
                bent += [Wrong(256), Wrong(-1), Wrong(2 ** 30), Wrong(None), Wrong(True)]
            elif isinstance(refusal, Torn):
                one, other = refusal.one, refusal.other
                bent += [Torn(one, one), Torn(other, other), Torn(one, other + 256),
                         Torn(one - 256, other), Torn(0, 2 ** key[1]), Torn(None, other)]
                self.assertIs(shows({**less, key: Torn(other, one)}), True)
            else:
                words = refusal.words
                bent += [Refusal(words[:1], refusal.paper), Refusal(words, Thin(0, 2)),
                         Refusal(words, Empty([1])), Refusal(words, None),
                         Refusal(words[::-1][:1] + words[1:], Empty([0] * (len(words) + 4)))]
            for other in bent:
                self.assertIs(shows({**less, key: other}), False, (divisor, key, vars(other or Wrong(0))))

    def test_shows_other_words(self):
        # Any word that a plan gets wrong is shown, and no other one.
        found = cheapest(6, 12, {})
        self.assertEqual(found.key, ("high", 0, 3))

        def shows(key, refusal):
            refused = {**found.refused, key: refusal}
            return Cheapest(found.key, found.multiplier, found.agreed, refused).shows(6, 12, {})

        for behind in range(6):
            for x in range(-3, 70):
                does = 0 <= x < 64 and x >> behind != x // 12
                self.assertIs(shows(("right", 0, behind), Wrong(x)), does)
        prices = {"right": -3, "high": 5}
        found = cheapest(6, 7, prices)
        torn = [key for key in found.refused if isinstance(found.refused[key], Torn)]
        self.assertEqual(len(torn), 25)
        for key in torn[::6]:
            for one in range(-2, 66, 3):
                for other in range(-2, 70):
                    does = 0 <= one < 64 and 0 <= other < 64 and one // 7 != other // 7
                    does = does and one >> key[1] == other >> key[1]
                    refused = {**found.refused, key: Torn(one, other)}
                    told = Cheapest(found.key, found.multiplier, found.agreed, refused)
                    self.assertIs(told.shows(6, 7, prices), does)

    def test_shows_other_multipliers(self):
        # Any multiplier that does is shown, not the least one alone.
        least = cheapest(8, 5, PRICES)
        self.assertEqual((least.key, least.multiplier), (("high", 0, 2), 205))
        for multiplier in range(200, 210):
            does = all(x * multiplier >> 10 == x // 5 for x in range(256))
            agreed = agree(Line(multiplier, 0, 1024), Line(1, 0, 5), 0, 255)
            told = Cheapest(least.key, multiplier, agreed, least.refused)
            self.assertIs(told.shows(8, 5, PRICES), does)
        # A multiplier of the other form's range is none, though it divides.
        found = cheapest(8, 3, PRICES)
        double = agree(Line(2 * found.multiplier, 0, 1024), Line(1, 0, 3), 0, 255)
        self.assertTrue(double)
        told = Cheapest(("high", 0, 2), 2 * found.multiplier, double, found.refused)
        self.assertIs(told.shows(8, 3, PRICES), False)

    def test_shows_by_price(self):
        found = cheapest(8, 4, {})
        self.assertIs(found.shows(8, 4, {}), True)
        self.assertIs(found.shows(8, 4, {"high": 1}), True)
        self.assertIs(found.shows(8, 4, {"right": 1}), False)
        self.assertIs(found.shows(8, 4, {"high": -1}), False)
        # What is as cheap and behind in order need not be refused, and is not.
        found = cheapest(8, 3, PRICES)
        more = dict(found.refused)
        more[("high", 0, 5)] = Refusal((), Thin(1, 0))
        self.assertIs(Cheapest(found.key, found.multiplier, found.agreed, more).shows(8, 3, PRICES), False)

    def test_program(self):
        self.assertEqual(Cheapest(("right", 0, 0), 0, None, {}).program(8),
                         Program(8, [("right", 0, 0)]))
        self.assertEqual(Cheapest(("right", 0, 5), 0, None, {}).program(8),
                         Program(8, [("right", 0, 5)]))
        self.assertEqual(Cheapest(("high", 0, 0), 9, None, {}).program(8), Program(8, [("high", 0, 9)]))
        self.assertEqual(Cheapest(("high", 0, 3), 9, None, {}).program(8),
                         Program(8, [("high", 0, 9), ("right", 1, 3)]))
        self.assertEqual(Cheapest(("ahead", 2, 0), 9, None, {}).program(8),
                         Program(8, [("right", 0, 2), ("high", 1, 9)]))
        self.assertEqual(Cheapest(("ahead", 2, 3), 9, None, {}).program(8),
                         Program(8, [("right", 0, 2), ("high", 1, 9), ("right", 2, 3)]))
        steps = [("high", 0, 44), ("less", 0, 1), ("right", 2, 1), ("add", 3, 1)]
        self.assertEqual(Cheapest(("more", 0, 0), 300, None, {}).program(8), Program(8, steps))
        self.assertEqual(Cheapest(("more", 0, 3), 300, None, {}).program(8),
                         Program(8, steps + [("right", 4, 3)]))

    def test_equality(self):
        check_equality(self, Wrong, [3], [4])
        check_equality(self, Torn, [3, 4], [4, 3])
        check_equality(self, Cheapest, [("high", 0, 1), 3, None, {("right", 0, 0): Wrong(1)}],
                       [("high", 0, 2), 4, Agree(1, 2), {}])
        refused = {("right", 0, 0): Wrong(1)}
        found = Cheapest(("high", 0, 1), 3, None, refused)
        refused.clear()
        self.assertEqual(found.refused, {("right", 0, 0): Wrong(1)})
        self.assertTrue(Wrong(0) and Torn(0, 0) and found)

    def check_errors(self, function, *more):
        for bits in (1, 0, 65, -2, None, True, 8.0, "8"):
            for divisor in (3, None, 0):
                with self.assertRaises(BadNumber) as caught:
                    function(bits, divisor, *more)
                self.assertIs(caught.exception.value, bits)
        for bits, divisor in ((8, 0), (8, -1), (8, 256), (8, None), (8, True), (8, 3.0), (64, 2 ** 64),
                              (2, 4)):
            with self.assertRaises(BadNumber) as caught:
                function(bits, divisor, *more)
            self.assertIs(caught.exception.value, divisor)
        for bits, divisor in ((2, 1), (2, 3), (64, 2 ** 64 - 1)):
            function(bits, divisor, *more)

    def test_errors(self):
        self.check_errors(cheapest, {})
        self.check_errors(divisible)


class DivisibleTest(unittest.TestCase):
    def check(self, bits, divisor):
        program = divisible(bits, divisor)
        self.assertEqual(program.bits, bits)
        (low, zero, factor), (turn, one, twos), (most, two, bound) = program.steps
        self.assertEqual((low, zero, turn, one, most, two), ("low", 0, "turn", 1, "most", 2))
        self.assertEqual(divisor % 2 ** twos, 0)
        rest = divisor // 2 ** twos
        self.assertEqual(rest % 2, 1)
        self.assertEqual(factor * rest % 2 ** bits, 1)
        self.assertEqual(bound, (2 ** bits - 1) // divisor)
        return program

    def test_all_words_of_small_bits(self):
        for bits in (2, 3, 4, 5, 6):
            for divisor in range(1, 2 ** bits):
                program = self.check(bits, divisor)
                for x in range(2 ** bits):
                    self.assertEqual(program.run(x), int(x % divisor == 0), (bits, divisor, x))

    def test_long_words(self):
        chance = generator(281)
        for bits in (8, 16, 32, 64):
            word = 2 ** bits - 1
            for divisor in (1, 2, 3, 6, 10, 2 ** (bits - 1), 3 * 2 ** (bits - 2), word, word - 1):
                program = self.check(bits, divisor)
                for _ in range(40):
                    x = chance.randint(0, word)
                    self.assertEqual(program.run(x), int(x % divisor == 0))
                    self.assertEqual(program.run(x - x % divisor), 1)
        self.assertEqual(divisible(8, 1), Program(8, [("low", 0, 1), ("turn", 1, 0), ("most", 2, 255)]))
        self.assertEqual(divisible(8, 12),
                         Program(8, [("low", 0, 171), ("turn", 1, 2), ("most", 2, 21)]))
        self.assertEqual(divisible(8, 128),
                         Program(8, [("low", 0, 1), ("turn", 1, 7), ("most", 2, 1)]))


if __name__ == "__main__":
    unittest.main()
