"""The cheapest shortcut ([20], [21])."""

import unittest

from pointorstrip.agreeing import Agree, agree
from pointorstrip.errors import BadNumber, TooLarge
from pointorstrip.papers import Empty, Point, Thin
from pointorstrip.rounded import Line
from pointorstrip.shortcuts import Refusal, Shortcut, shortcut
from trying import check_equality, generator, refutes


def word_row(target, shift, word):
    """The row that a word asks, as the document tells it."""
    x, side = word
    t = target.at(x) * 2 ** shift
    return (-x, -1, -t) if side == 0 else (x, 1, t + 2 ** shift - 1)


def cheapest_by_trying(target, top):
    """(shift, multiplier, offset) of the cheapest shortcut, all being tried."""
    for shift in range(40):
        first = target.at(0) << shift
        last = target.at(top) << shift
        unit = 1 << shift
        found = []
        for offset in range(first, first + unit):
            # At the top the number must be right as well.
            low = -((offset - last) // top)
            high = (last + unit - 1 - offset) // top
            for multiplier in range(low, high + 1):
                if all(multiplier * x + offset >> shift == target.at(x) for x in range(top + 1)):
                    found.append((shift, multiplier, offset))
        if found:
            return min(found)
    return None


def cheapest_division(divisor, top):
    """(shift, multiplier, offset) for x // divisor, by the words that matter.

    In each block of numbers with one quotient the first and the last one matter, and what they
    ask changes evenly from block to block, so the first, the last whole block and the top do.
    """
    shift = 0
    while True:
        unit = 1 << shift
        last = top // divisor
        firsts = [(0, 0), (last * divisor, last)]
        ends = [(top, last)]
        if top >= divisor - 1:
            whole = (top + 1) // divisor - 1
            ends += [(divisor - 1, 0), (whole * divisor + divisor - 1, whole)]
        for multiplier in range(max(0, unit // divisor - 2), unit // divisor + 4):
            low = max([t * unit - multiplier * x for x, t in firsts])
            high = min([t * unit + unit - 1 - multiplier * x for x, t in ends])
            if low <= high:
                return shift, multiplier, low
        shift += 1


class ShortcutTest(unittest.TestCase):
    def check(self, target, top):
        """shortcut(target, top), held against what the document says of it."""
        found = shortcut(target, top)
        self.assertIsInstance(found, Shortcut)
        self.assertTrue(found)
        line = Line(found.multiplier, found.offset, 2 ** found.shift)
        self.assertEqual(found.line(), line)
        self.assertIsInstance(found.agreed, Agree)
        self.assertIs(found.agreed.shows(line, target, 0, top), True)
        self.assertIs(type(found.refused), tuple)
        self.assertEqual(len(found.refused), 3)
        if found.shift == 0:
            self.assertIsNone(found.refused[0])
        else:
            self.check_refusal(found.refused[0], target, top, found.shift - 1, [])
        less = [(1, 0, found.multiplier - 1)]
        self.check_refusal(found.refused[1], target, top, found.shift, less)
        lower = [(1, 0, found.multiplier), (0, 1, found.offset - 1)]
        self.check_refusal(found.refused[2], target, top, found.shift, lower)
        self.assertIs(found.shows(target, top), True)
        return found.shift, found.multiplier, found.offset

    def check_refusal(self, refusal, target, top, shift, more):
        self.assertIsInstance(refusal, Refusal)
        self.assertTrue(refusal)
        self.assertIs(type(refusal.words), tuple)
        self.assertLessEqual(len(refusal.words), 4)
        for word in refusal.words:
            self.assertIs(type(word), tuple)
            self.assertTrue(0 <= word[0] <= top and word[1] in (0, 1))
        rows = [word_row(target, shift, word) for word in refusal.words]
        self.assertTrue(refutes(refusal.paper, rows + more))
        self.assertIs(refusal.shows(target, top, shift, more), True)
        self.assertIs(refusal.shows(target, top, shift, tuple(more)), True)

    def test_by_hand(self):
        self.assertEqual(self.check(Line(1, 0, 7), 255), (9, 73, 36))
        # Targets that need no shift.
        self.assertEqual(self.check(Line(3, -2, 1), 10 ** 6), (0, 3, -2))
        self.assertEqual(self.check(Line(-6, 7, 2), 10 ** 6), (0, -3, 3))
        self.assertEqual(self.check(Line(0, 0, 5), 10 ** 6), (0, 0, 0))
        self.assertEqual(self.check(Line(1, 0, 300), 255), (0, 0, 0))
        self.assertEqual(self.check(Line(3, 1, 5), 1), (0, 0, 0))
        self.assertEqual(self.check(Line(1, 0, 1), 1), (0, 1, 0))
        # Powers of 2 need their own shift.
        self.assertEqual(self.check(Line(1, 0, 8), 10 ** 9), (3, 1, 0))

    def test_against_trying_all(self):
        chance = generator(101)
        shifts = {}
        for _ in range(250):
            target = Line(chance.randint(-9, 9), chance.randint(-12, 12), chance.randint(1, 12))
            top = chance.randint(1, 12)
            told = self.check(target, top)
            self.assertEqual(told, cheapest_by_trying(target, top), (vars(target), top))
            shifts[told[0]] = shifts.get(told[0], 0) + 1
        self.assertGreater(len(shifts), 4)

    def test_words(self):
        for bits in (8, 16, 32, 64):
            for divisor in (1, 2, 3, 5, 6, 7, 9, 10, 11, 13, 25, 60, 100, 125, 641, 1000, 10 ** 9):
                top = 2 ** bits - 1
                told = self.check(Line(1, 0, divisor), top)
                self.assertEqual(told, cheapest_division(divisor, top), (bits, divisor))
        # As they are told elsewhere, with the offset as great as the multiplier.
        self.assertEqual(self.check(Line(1, 0, 3), 2 ** 32 - 1)[:2], (32, 0x55555555))
        self.assertEqual(self.check(Line(1, 0, 5), 2 ** 32 - 1)[:2], (32, 0x33333333))
        self.assertEqual(self.check(Line(1, 0, 3), 2 ** 64 - 1)[:2], (64, 2 ** 64 // 3))
        self.assertEqual(self.check(Line(1, 0, 10), 2 ** 16 - 1)[:2], (17, 2 ** 17 // 10))

    def test_calendar(self):
        # The days ahead of each month from March on.
        self.assertEqual(self.check(Line(153, 2, 5), 11), cheapest_by_trying(Line(153, 2, 5), 11))

    def test_long_numbers(self):
        chance = generator(102)
        most = 10 ** 30 - 1
        for _ in range(15):
            size = 10 ** chance.choice([5, 15, 30]) - 1
            target = Line(chance.randint(-size, size), chance.randint(-size, size),
                          chance.randint(1, size))
            top = chance.randint(1, size)
            shift, multiplier, offset = self.check(target, top)
            for x in [0, 1, top] + [chance.randint(0, top) for _ in range(50)]:
                self.assertEqual(multiplier * x + offset >> shift, target.at(x))
        self.check(Line(most - 6, most // 10, most), most)

    def test_shows(self):
        target, top = Line(1, 0, 7), 255
        found = shortcut(target, top)
        parts = [found.shift, found.multiplier, found.offset, found.agreed, found.refused]
        self.assertIs(Shortcut(*parts).shows(target, top), True)
        refused = found.refused
        long = shortcut(target, 2 ** 16)
        double = Line(146, 72, 1024)
        agreed = agree(double, target, 0, 255)
        bent = [
            (0, 8), (0, 10), (0, -1), (0, 0), (1, 72), (1, 74), (2, 35), (2, 37),
            (3, None), (3, Agree(None, None)), (3, Agree(found.agreed.first, None)),
            (3, Agree(None, found.agreed.last)), (3, Agree(Thin(1, 0), found.agreed.last)),
            (3, Thin(1, 0)), (3, agree(Line(1, 0, 7), Line(1, 0, 7), 0, 0)),
            (4, ()), (4, refused[:2]), (4, refused + refused[:1]), (4, refused[::-1]),
            (4, (None,) + refused[1:]), (4, (refused[0], None, refused[2])),
            (4, refused[:2] + (None,)), (4, (refused[1],) + refused[1:]),
            (4, (refused[0], refused[0], refused[2])), (4, refused[:2] + (refused[0],)),
            (4, (refused[0].paper,) + refused[1:]),
        ]
        for at, part in bent:
            told = list(parts)
            told[at] = part
            self.assertIs(Shortcut(*told).shows(target, top), False, (at, part))
        self.assertIs(found.shows(target, 2 ** 16), False)
        self.assertIs(found.shows(Line(1, 0, 6), top), False)
        self.assertIs(long.shows(target, 2 ** 16), True)
        # A shortcut that is right, and not the cheapest one.
        for refusals in (refused, (None,) + refused[1:], long.refused):
            self.assertIs(Shortcut(10, 146, 72, agreed, refusals).shows(target, top), False)

    def test_shows_asks_for_the_rows_told(self):
        # Words that refuse multipliers up to 71, and not up to 72.
        target, top = Line(1, 0, 7), 255
        found = shortcut(target, top)
        refusals = [
            Refusal(((252, 0), (y, 1)), Empty([1, 1, 252 - y])) for y in range(252)
        ]
        less = [
            refusal for refusal in refusals if refusal.shows(target, top, 9, [(1, 0, 71)])
            and not refusal.shows(target, top, 9, [(1, 0, 72)])
        ]
        self.assertTrue(less)
        told = (found.refused[0], less[0], found.refused[2])
        self.assertIs(Shortcut(9, 73, 36, found.agreed, told).shows(target, top), False)

    def test_shows_without_a_shift(self):
        target = Line(3, 1, 1)
        found = shortcut(target, 5)
        parts = (0, 3, 1, found.agreed)
        self.assertIs(Shortcut(*parts, found.refused).shows(target, 5), True)
        told = (found.refused[1],) + found.refused[1:]
        self.assertIs(Shortcut(*parts, told).shows(target, 5), False)

    def test_refusal_shows(self):
        target, top = Line(1, 0, 7), 255
        found = shortcut(target, top)
        words, paper = found.refused[0].words, found.refused[0].paper
        self.assertEqual(len(words), 4)

        def shows(some, other, shift=8, more=()):
            return Refusal(some, other).shows(target, top, shift, more)

        self.assertIs(shows(words, paper), True)
        self.assertIs(shows(words, paper, 9), False)
        self.assertIs(shows(words, paper, -1), False)
        self.assertIs(shows(words, paper, 8, [(1, 0, 10 ** 6)]), isinstance(paper, Thin))
        for at in range(4):
            self.assertIs(shows(words[:at] + words[at + 1:], paper), False)
            x, side = words[at]
            for word in ((x, 1 - side), (x, 2), (x, -1), (-1, side), (256, side)):
                self.assertIs(shows(words[:at] + (word,) + words[at + 1:], paper), False)
        for other in (Thin(2, 0), Thin(0, 0), Empty([0] * 4), Empty([1] * 5), Point(36, 18), None):
            self.assertIs(shows(words, other), False)
        # Five words are too many; words outside are none, even if the paper needs them not.
        idle = Empty([0, 0, 0, 1])
        self.assertIs(shows(((0, 0),) * 3, idle, 8, [(0, 0, -1)]), True)
        self.assertIs(shows(((0, 0), (256, 0), (0, 0)), idle, 8, [(0, 0, -1)]), False)
        self.assertIs(shows(((0, 0), (-1, 1), (0, 0)), idle, 8, [(0, 0, -1)]), False)
        self.assertIs(shows(((0, 0), (5, 2), (0, 0)), idle, 8, [(0, 0, -1)]), False)
        self.assertIs(shows(((0, 0),) * 4, Empty([0] * 4 + [1]), 8, [(0, 0, -1)]), True)
        self.assertIs(shows(((0, 0),) * 5, Empty([0] * 5 + [1]), 8, [(0, 0, -1)]), False)
        self.assertIs(shows((), Empty([1]), 8, [(0, 0, -1)]), True)
        # The words' rows come first, in the order of the words.
        self.assertIs(shows(((5, 1), (0, 0)), Empty([0, 1, 1]), 3, [(0, 1, -1)]), True)
        self.assertIs(shows(((0, 0), (5, 1)), Empty([0, 1, 1]), 3, [(0, 1, -1)]), False)
        self.assertIs(shows(((0, 0), (5, 1)), Empty([1, 0, 1]), 3, ((0, 1, -1),)), True)

    def test_equality(self):
        check_equality(self, Refusal, [((0, 1),), Thin(1, 0)], [((0, 0),), Thin(0, 1)])
        arguments = [1, 2, 3, Agree(1, 2), (None, 1, 2)]
        check_equality(self, Shortcut, arguments, [0, 0, 0, Agree(2, 1), (None, 2, 1)])
        words = [(0, 1), (5, 0)]
        refusal = Refusal(words, None)
        words.append((7, 7))
        self.assertEqual(refusal.words, ((0, 1), (5, 0)))
        self.assertEqual(Shortcut(4, 5, -6, None, [None] * 3).line(), Line(5, -6, 16))

    def test_errors(self):
        long = 10 ** 30
        fine = Line(1, 0, 7)
        for top in (0, -1, None, True, 1.0, "5"):
            for target in (fine, Line(long, 0, 1)):
                with self.assertRaises(BadNumber) as caught:
                    shortcut(target, top)
                self.assertIs(caught.exception.value, top)
        for target, top, figures in (
            (fine, long, 31), (Line(long, 0, 7), 5, 31), (Line(1, -long, 7), 5, 31),
            (Line(1, 0, long), 5, 31), (Line(-100 * long, long, long), 5, 33),
        ):
            with self.assertRaises(TooLarge) as caught:
                shortcut(target, top)
            self.assertEqual(caught.exception.number, figures)
        self.check(Line(1 - long, long - 1, long - 1), long - 1)


if __name__ == "__main__":
    unittest.main()
