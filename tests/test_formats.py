"""Formats, and whether their numbers come back ([33], [34], [35])."""

import unittest
from fractions import Fraction

from pointorstrip.errors import BadNumber, TooLarge
from pointorstrip.formats import (
    Back, Fewest, Format, Lost, case_rows, comes_back, fewest_figures, judge_back, read, written,
)
from pointorstrip.papers import Empty, Point, Thin
from pointorstrip.regions import Region
from trying import check_equality, generator, refutes

MOST = 10 ** 120


def value(base, m, e):
    return m * Fraction(base) ** e


def numbers_of(told):
    """All numbers of a format, ascending, as pairs (m, e)."""
    least = told.base ** (told.figures - 1)
    return [(m, e) for e in range(told.low, told.high + 1) for m in range(least, least * told.base)]


def nearest_of(numbers, base, wanted):
    """Of ascending numbers (m, e) the nearest one, of two as near the greater one."""
    return min(reversed(numbers), key=lambda pair: abs(value(base, *pair) - wanted))


class FormatTest(unittest.TestCase):
    def test_has(self):
        told = Format(10, 2, -1, 3)
        for m in range(-5, 120):
            for e in range(-4, 7):
                self.assertIs(told.has(m, e), 10 <= m < 100 and -1 <= e <= 3)
        self.assertIs(Format(2, 1, 5, 5).has(1, 5), True)
        self.assertIs(Format(2, 1, 5, 5).has(2, 5), False)
        most = 100 ** 60
        self.assertIs(Format(100, 60, 0, 0).has(most - 1, 0), True)
        self.assertIs(Format(100, 60, 0, 0).has(most, 0), False)
        self.assertIs(Format(100, 60, 0, 0).has(most // 100, 0), True)
        self.assertIs(Format(100, 60, 0, 0).has(most // 100 - 1, 0), False)
        for m, e in ((None, 0), (12, None), ("12", 0), (12, "0"), (12.0, 0), (12, 0.0), (True, 0),
                     (12, True), ((), []), ({}, 0), (12, (0,))):
            self.assertIs(told.has(m, e), False)
        self.assertIs(Format(2, 1, 0, 1).has(True, 0), False)
        self.assertIs(Format(2, 1, 0, 1).has(1, False), False)

    def test_errors(self):
        for arguments, bad in (
            ((1, 0, 0, 0), 1), ((101, None, 0, 0), 101), ((None, None, 0, 0), None), ((True, 1, 0, 0), True),
            ((2.0, 1, 0, 0), 2.0), ((-2, 1, 0, 0), -2), ((2, 0, "low", 0), 0), ((2, 61, "low", 0), 61),
            ((2, None, 0, 0), None), ((2, True, 0, 0), True), ((2, 1, -201, -202), -201),
            ((2, 1, 201, 202), 201), ((2, 1, None, "high"), None), ((2, 1, False, 0), False),
            ((2, 1, 3, 2), 2), ((2, 1, 0, 201), 201), ((2, 1, 0, None), None), ((2, 1, 0, 1.0), 1.0),
            ((2, 1, -200, -201), -201),
        ):
            with self.assertRaises(BadNumber) as caught:
                Format(*arguments)
            self.assertEqual(caught.exception.value, bad)
            self.assertIs(type(caught.exception.value), type(bad))
        for arguments in ((2, 1, -200, 200), (100, 60, 200, 200), (10, 5, -200, -200)):
            told = Format(*arguments)
            self.assertEqual((told.base, told.figures, told.low, told.high), arguments)

    def test_equality(self):
        check_equality(self, Format, [2, 3, -4, 5], [3, 2, -5, 6])


class WrittenTest(unittest.TestCase):
    def check(self, base, m, e, other, figures):
        """written(..), held against the numbers beside it."""
        d, f = written(base, m, e, other, figures)
        self.assertTrue(other ** (figures - 1) <= d < other ** figures)
        here = abs(value(other, d, f) - value(base, m, e))
        # The next greater one is not as near, the next lesser one is not nearer.
        self.assertLess(here, value(other, d + 1, f) - value(base, m, e))
        if d > other ** (figures - 1):
            under = value(other, d - 1, f)
        else:
            under = value(other, d * other - 1, f - 1)
        self.assertLessEqual(here, value(base, m, e) - under)
        return d, f

    def test_by_hand(self):
        self.assertEqual(self.check(2, 1, 0, 10, 1), (1, 0))
        self.assertEqual(self.check(2, 1, -1, 10, 3), (500, -3))
        self.assertEqual(self.check(2, 1, 10, 10, 2), (10, 2))
        self.assertEqual(self.check(2, 1, 10, 10, 4), (1024, 0))
        self.assertEqual(self.check(2, 1, 10, 10, 6), (102400, -2))
        # Two as near: the greater one; and over to the next exponent.
        self.assertEqual(self.check(10, 25, 0, 10, 1), (3, 1))
        self.assertEqual(self.check(10, 35, 0, 10, 1), (4, 1))
        self.assertEqual(self.check(10, 24, 0, 10, 1), (2, 1))
        self.assertEqual(self.check(10, 95, 0, 10, 1), (1, 2))
        self.assertEqual(self.check(10, 94, 0, 10, 1), (9, 1))
        self.assertEqual(self.check(10, 9995, -2, 10, 3), (100, 0))
        self.assertEqual(self.check(2, 3, 0, 2, 1), (1, 2))
        self.assertEqual(self.check(10, 1, 2, 100, 1), (1, 1))
        self.assertEqual(self.check(10, 1, 3, 100, 1), (10, 1))
        self.assertEqual(self.check(100, 99, 0, 100, 60), (99 * 100 ** 59, -59))
        self.assertIs(type(written(2, 1, 0, 10, 1)), tuple)

    def test_against_all_numbers(self):
        for other, figures in ((2, 1), (2, 3), (3, 2), (10, 1), (7, 1)):
            numbers = [(d, f) for f in range(-12, 13)
                       for d in range(other ** (figures - 1), other ** figures)]
            for base in (2, 3, 10):
                for m in range(1, 40):
                    for e in (-2, -1, 0, 1):
                        told = written(base, m, e, other, figures)
                        self.assertEqual(told, nearest_of(numbers, other, value(base, m, e)))

    def test_long_numbers(self):
        chance = generator(331)
        for _ in range(200):
            base, other = chance.choice([2, 3, 10, 60, 100]), chance.choice([2, 5, 10, 97, 100])
            m = chance.choice([1, MOST, chance.randint(1, MOST), chance.randint(1, 1000)])
            self.check(base, m, chance.choice([-200, 200, chance.randint(-200, 200)]), other,
                       chance.choice([1, 60, chance.randint(1, 60)]))

    def test_errors(self):
        for arguments, bad in (
            ((1, 0, 0, 0, 0), 1), ((101, 5, 0, 10, 1), 101), ((True, 5, 0, 10, 1), True),
            ((None, None, 0, 10, 1), None), ((2, 0, None, 10, 1), 0), ((2, -5, 0, 10, 1), -5),
            ((2, MOST + 1, 500, 10, 1), MOST + 1), ((2, True, 0, 10, 1), True), ((2, 1.0, 0, 10, 1), 1.0),
            ((2, 5, -201, 1, 1), -201), ((2, 5, 201, 10, 1), 201), ((2, 5, None, None, 1), None),
            ((2, 5, False, 10, 1), False), ((2, 5, 0, 1, 0), 1), ((2, 5, 0, 101, 0), 101),
            ((2, 5, 0, "10", 0), "10"), ((2, 5, 0, 10, 0), 0), ((2, 5, 0, 10, 61), 61),
            ((2, 5, 0, 10, None), None), ((2, 5, 0, 10, True), True),
        ):
            with self.assertRaises(BadNumber) as caught:
                written(*arguments)
            self.assertEqual(caught.exception.value, bad)
            self.assertIs(type(caught.exception.value), type(bad))
        self.check(100, MOST, 200, 2, 60)
        self.check(100, 1, -200, 2, 60)


class ReadTest(unittest.TestCase):
    def test_against_all_numbers(self):
        for told in (Format(2, 3, -2, 1), Format(10, 1, -1, 1), Format(3, 2, 0, 0), Format(5, 1, -3, -1),
                     Format(2, 1, -3, 3), Format(16, 1, 0, 1)):
            numbers = numbers_of(told)
            for other in (2, 3, 10):
                for d in range(1, 60):
                    for f in range(-5, 6):
                        here = read(told, other, d, f)
                        self.assertEqual(here, nearest_of(numbers, told.base, value(other, d, f)),
                                         (vars(told), other, d, f))

    def test_by_hand(self):
        told = Format(10, 2, 0, 1)
        self.assertEqual(read(told, 10, 5, 0), (10, 0))
        self.assertEqual(read(told, 10, 1, -2000), (10, 0))
        self.assertEqual(read(told, 10, 10, 0), (10, 0))
        self.assertEqual(read(told, 10, 995, -1), (10, 1))
        self.assertEqual(read(told, 10, 994, -1), (99, 0))
        self.assertEqual(read(told, 10, 990, 0), (99, 1))
        self.assertEqual(read(told, 10, 9949, -1), (99, 1))
        self.assertEqual(read(told, 10, 995, 0), (99, 1))
        self.assertEqual(read(told, 10, MOST, 2000), (99, 1))
        self.assertEqual(read(told, 2, 25, -1), (13, 0))
        self.assertEqual(read(told, 10, 105, 0), (11, 1))
        self.assertEqual(read(told, 10, 104, 0), (10, 1))
        self.assertEqual(read(Format(2, 3, -200, -200), 100, 1, 0), (7, -200))
        self.assertIs(type(read(told, 2, 25, -1)), tuple)

    def test_errors(self):
        told = Format(2, 3, 0, 5)
        for other, d, f, bad in (
            (1, 0, 0, 1), (101, 1, 0, 101), (None, None, 0, None), (True, 1, 0, True), (2, 0, None, 0),
            (2, MOST + 1, 0, MOST + 1), (2, -1, 0, -1), (2, True, 0, True), (2, 5.0, 0, 5.0),
            (2, 5, -2001, -2001), (2, 5, 2001, 2001), (2, 5, None, None), (2, 5, False, False),
        ):
            with self.assertRaises(BadNumber) as caught:
                read(told, other, d, f)
            self.assertEqual(caught.exception.value, bad)
            self.assertIs(type(caught.exception.value), type(bad))
        self.assertEqual(read(told, 100, MOST, 2000), (7, 5))
        self.assertEqual(read(told, 100, 1, -2000), (4, 0))


def lost_by_trying(told, other, figures):
    """The numbers of a format that do not come back, all being tried."""
    lost = []
    for m, e in numbers_of(told):
        d, f = written(told.base, m, e, other, figures)
        if read(told, other, d, f) != (m, e):
            lost.append((m, e))
    return lost


def rows_of(told, other, figures, key):
    """The rows of one paper of a Back, as the document tells them."""
    e, f, case = key
    base = told.base
    p = base ** max(e, 0) * other ** max(-f, 0)
    q = other ** max(f, 0) * base ** max(-e, 0)
    L, T = base ** (told.figures - 1), other ** figures
    rows = [(-1, 0, -L), (1, 0, L * base - 1), (-p, 0, -(T // other) * q), (p, 0, T * q - 1),
            (-2 * p, 2 * q, q), (2 * p, -2 * q, q - 1)]
    rows += {
        "less": [(0, -q, -L * p), (-2 * p, 2 * q, -p - 1)],
        "more": [(0, q, L * base * p - 1), (2 * p, -2 * q, -p)],
        "above": [(0, -q, -L * base * p)],
        "below": [(0, q, L * p - 1), (-1, 0, -L - 1)],
        "first": [(1, 0, L), (-2 * base * p, 2 * base * q, -p - 1)],
    }[case]
    if case in ("more", "above") and e == told.high:
        rows.append((1, 0, L * base - 2))
    return rows


def keys_of(told, other, figures):
    """The keys of a Back, all exponents f being tried for all numbers."""
    keys = []
    for e in range(told.low, told.high + 1):
        L = told.base ** (told.figures - 1)
        for f in range(-60, 60):
            first = value(other, other ** (figures - 1), f) / Fraction(told.base) ** e
            if any(first <= m < first * other for m in range(L, L * told.base)):
                keys += [(e, f, case) for case in ("less", "more", "above", "below")]
                if e > told.low:
                    keys.append((e, f, "first"))
    return keys


class BackTest(unittest.TestCase):
    def check(self, told, other, figures):
        """judge_back(..), its papers or its number held against what the document says."""
        found = judge_back(told, other, figures)
        self.assertIs(found.shows(told, other, figures), True)
        self.assertIs(bool(found), isinstance(found, Back))
        if isinstance(found, Lost):
            self.assertTrue(told.has(found.m, found.e))
            self.assertFalse(comes_back(told, other, figures, found.m, found.e))
        else:
            self.assertIsInstance(found, Back)
            for key in found.papers:
                self.assertTrue(refutes(found.papers[key], rows_of(told, other, figures, key)))
        return found

    def some_formats(self):
        return [
            Format(2, 1, -4, 4), Format(2, 2, -3, 3), Format(2, 3, -5, 2), Format(2, 5, 0, 2),
            Format(3, 2, -2, 2), Format(3, 3, 1, 2), Format(5, 1, -3, 1), Format(5, 2, 0, 0),
            Format(7, 1, -1, 1), Format(10, 1, -3, 3), Format(10, 2, -1, 1), Format(12, 1, 0, 3),
        ]

    def test_against_trying_all(self):
        told = [0, 0]
        for kind in self.some_formats():
            for other in (2, 3, 5, 10, 16):
                for figures in range(1, 8 if other < 4 else 4):
                    found = self.check(kind, other, figures)
                    lost = lost_by_trying(kind, other, figures)
                    self.assertEqual(bool(found), not lost, (vars(kind), other, figures))
                    told[bool(found)] += 1
                    if lost:
                        self.assertIn((found.m, found.e), lost)
        self.assertGreater(min(told), 50)

    def test_rows(self):
        for kind in self.some_formats():
            for other, figures in ((2, 5), (10, 3), (7, 1)):
                for e in range(kind.low, kind.high + 1):
                    for f in (-3, 0, 2):
                        for case in ("less", "more", "above", "below", "first"):
                            key = (e, f, case)
                            self.assertEqual(case_rows(kind, other, figures, key),
                                             rows_of(kind, other, figures, key))

    def test_keys(self):
        for kind, other, figures in (
            (Format(2, 3, -2, 2), 10, 2), (Format(2, 3, -2, 2), 10, 3), (Format(10, 1, -1, 1), 2, 6),
            (Format(10, 1, -1, 1), 2, 7), (Format(3, 2, 0, 1), 5, 4), (Format(7, 1, 3, 3), 7, 1),
            (Format(2, 1, -3, 0), 10, 1),
        ):
            found = self.check(kind, other, figures)
            self.assertIsInstance(found, Back)
            self.assertEqual(sorted(found.papers), sorted(keys_of(kind, other, figures)))

    def test_binary_formats(self):
        for e in (-149, -30, -1, 0, 3, 104):
            self.assertTrue(self.check(Format(2, 24, e, e), 10, 9))
        self.assertTrue(self.check(Format(2, 24, -160, -100), 10, 9))
        self.assertTrue(self.check(Format(2, 24, 60, 104), 10, 9))
        found = self.check(Format(2, 24, -140, 100), 10, 8)
        self.assertIsInstance(found, Lost)
        self.assertTrue(self.check(Format(2, 53, -10, 10), 10, 17))
        self.assertTrue(self.check(Format(2, 53, -200, -190), 10, 17))
        self.assertTrue(self.check(Format(2, 53, 190, 200), 10, 17))
        self.assertFalse(self.check(Format(2, 53, -60, -40), 10, 16))
        # Back and forth between 15 figures and 53 bits.
        self.assertTrue(self.check(Format(10, 15, -5, 5), 2, 53))
        self.assertFalse(self.check(Format(10, 16, -5, 5), 2, 53))
        self.assertTrue(self.check(Format(10, 17, 0, 0), 10, 17))
        self.assertFalse(self.check(Format(10, 17, 0, 0), 10, 16))
        self.assertTrue(self.check(Format(2, 60, -200, 200), 10, 20))

    def test_each_case(self):
        # Each number that is lost is so in one of the ways, and of some formats in one way alone.
        seen = set()
        alone = set()
        for kind in self.some_formats():
            for other in (2, 3, 5, 10, 16):
                for figures in range(1, 6):
                    cases = set()
                    for m, e in lost_by_trying(kind, other, figures):
                        d, f = written(kind.base, m, e, other, figures)
                        if value(other, d, f) > value(kind.base, m, e) and d == other ** (figures - 1):
                            # Rounded over: the pair (m, d) is told by the lesser exponent.
                            d, f = d * other, f - 1
                        ways = [case for case in ("less", "more", "above", "below", "first")
                                if case != "first" or e > kind.low]
                        ways = [case for case in ways
                                if Region(rows_of(kind, other, figures, (e, f, case))).has(m, d)]
                        self.assertTrue(ways)
                        cases.update(ways)
                    seen |= cases
                    if len(cases) == 1:
                        alone |= cases
        self.assertEqual(seen, {"less", "more", "above", "below", "first"})
        self.assertEqual(alone, {"less", "more", "above", "first"})

    def test_shows(self):
        kind = Format(2, 3, -2, 2)
        found = judge_back(kind, 10, 3)
        self.assertIs(Back(dict(found.papers)).shows(kind, 10, 3), True)
        for other in (Format(2, 4, -2, 2), Format(2, 3, -3, 2), Format(2, 3, -2, 3),
                      Format(3, 3, -2, 2), Format(2, 3, -2, 1), Format(2, 3, -1, 2)):
            self.assertIs(found.shows(other, 10, 3), False)
        for other, figures in ((10, 2), (10, 4), (10, 1), (9, 3), (2, 3)):
            self.assertIs(found.shows(kind, other, figures), False)
        self.assertIs(Back({}).shows(kind, 10, 3), False)
        more = dict(found.papers)
        more[(-2, 0, "first")] = Empty([0])
        self.assertIs(Back(more).shows(kind, 10, 3), False)
        for key in found.papers:
            less = {other: found.papers[other] for other in found.papers if other != key}
            self.assertIs(Back(less).shows(kind, 10, 3), False)
            for paper in (None, Point(4, 400), Thin(2, 0), Thin(0, 0), Empty([0] * 6), Lost(4, 0),
                          Empty([0] * len(rows_of(kind, 10, 3, key)))):
                self.assertIs(Back({**less, key: paper}).shows(kind, 10, 3), False)
            e, f, _ = key
            self.assertIs(Back({**less, (e, f, "other"): found.papers[key]}).shows(kind, 10, 3), False)

    def test_lost_shows(self):
        kind = Format(2, 4, -3, 3)
        lost = lost_by_trying(kind, 10, 1)
        self.assertIn((9, 1), lost)
        for m in range(6, 18):
            for e in range(-5, 6):
                self.assertIs(Lost(m, e).shows(kind, 10, 1), (m, e) in lost)
                self.assertIs(Lost(m, e).shows(kind, 10, 9), False)
        for m, e in ((None, 1), (9, None), (True, 1), (9, False), ("9", 1)):
            self.assertIs(Lost(m, e).shows(kind, 10, 1), False)

    def test_comes_back(self):
        kind = Format(2, 4, -3, 3)
        self.assertIs(comes_back(kind, 10, 1, 8, -3), True)
        self.assertIs(comes_back(kind, 10, 1, 9, 1), False)
        self.assertIs(comes_back(kind, 10, 2, 9, 1), True)
        # The greatest number is read back from all that is above it, the least from below.
        kind = Format(2, 4, 0, 0)
        self.assertEqual(written(2, 15, 0, 10, 1), (2, 1))
        self.assertIs(comes_back(kind, 10, 1, 15, 0), True)
        self.assertIs(comes_back(kind, 10, 1, 14, 0), False)
        self.assertIs(comes_back(Format(2, 4, 0, 1), 10, 1, 15, 0), False)

    def test_errors(self):
        kind = Format(2, 3, 0, 1)
        for other, figures, bad in (
            (1, 0, 1), (101, 5, 101), (None, None, None), (True, 5, True), (10.0, 0, 10.0), (10, 0, 0),
            (10, 61, 61), (10, None, None), (10, True, True), (10, 5.0, 5.0), (10, -1, -1),
        ):
            with self.assertRaises(BadNumber) as caught:
                judge_back(kind, other, figures)
            self.assertIs(caught.exception.value, bad)
        self.assertTrue(judge_back(kind, 100, 60))
        self.assertTrue(judge_back(Format(100, 1, -1, 1), 2, 60))

    def test_equality(self):
        check_equality(self, Back, [{(0, 0, "less"): Thin(1, 0)}], [{(0, 0, "more"): Thin(1, 0)}])
        check_equality(self, Lost, [3, 4], [4, 3])
        papers = {(0, 0, "less"): Thin(1, 0)}
        found = Back(papers)
        papers.clear()
        self.assertEqual(len(found.papers), 1)


class FewestTest(unittest.TestCase):
    def check(self, kind, other):
        found = fewest_figures(kind, other)
        self.assertIsInstance(found, Fewest)
        self.assertTrue(found)
        self.assertIs(found.shows(kind, other), True)
        self.assertIsInstance(found.back, Back)
        self.assertTrue(found.back.shows(kind, other, found.figures))
        self.assertIs(type(found.lost), tuple)
        self.assertEqual(len(found.lost), found.figures - 1)
        for number, lost in enumerate(found.lost):
            self.assertIsInstance(lost, Lost)
            self.assertTrue(lost.shows(kind, other, number + 1))
        return found.figures

    def test_against_trying(self):
        for kind in (Format(2, 1, -4, 4), Format(2, 3, -5, 2), Format(3, 2, -2, 2), Format(10, 2, -1, 1),
                     Format(12, 1, 0, 3), Format(5, 1, 0, 0)):
            for other in (2, 3, 10, 16, 100):
                figures = 1
                while lost_by_trying(kind, other, figures):
                    figures += 1
                self.assertEqual(self.check(kind, other), figures)

    def test_known_ones(self):
        self.assertEqual(self.check(Format(2, 24, -149, 104), 10), 9)
        self.assertEqual(self.check(Format(2, 53, -60, -40), 10), 17)
        self.assertEqual(self.check(Format(10, 1, 0, 0), 10), 1)
        self.assertEqual(self.check(Format(2, 60, 0, 0), 2), 60)
        self.assertEqual(self.check(Format(10, 15, 0, 3), 2), 51)

    def test_too_large(self):
        for kind, other in ((Format(100, 60, 0, 0), 2), (Format(10, 19, 0, 0), 2),
                            (Format(100, 60, -200, 200), 99)):
            with self.assertRaises(TooLarge) as caught:
                fewest_figures(kind, other)
            self.assertEqual(caught.exception.number, 61)
        for other in (1, 101, None, True, "2"):
            with self.assertRaises(BadNumber) as caught:
                fewest_figures(Format(100, 60, 0, 0), other)
            self.assertIs(caught.exception.value, other)

    def test_shows(self):
        kind = Format(2, 4, -2, 2)
        found = fewest_figures(kind, 10)
        figures, back, lost = found.figures, found.back, found.lost
        self.assertGreater(figures, 1)
        self.assertIs(Fewest(figures, back, lost).shows(kind, 10), True)
        self.assertIs(Fewest(figures, back, list(lost)).shows(kind, 10), True)
        self.assertIs(Fewest(figures, back, lost).shows(kind, 9), False)
        self.assertIs(Fewest(figures, back, lost).shows(Format(2, 4, -2, 3), 10), False)
        for other in (figures - 1, figures + 1, 0, None):
            self.assertIs(Fewest(other, back, lost).shows(kind, 10), False)
        more = judge_back(kind, 10, figures + 1)
        for other in (None, more, Back({}), lost[0], Thin(1, 0)):
            self.assertIs(Fewest(figures, other, lost).shows(kind, 10), False)
        for other in ((), lost[1:], lost + lost[:1], (None,) * len(lost), (Lost(8, 0),) + lost[1:],
                      (back,) + lost[1:], (Lost(99, 0),) + lost[1:]):
            if len(other) != len(lost) or not isinstance(other[0], Lost) or not other[0].shows(kind, 10, 1):
                self.assertIs(Fewest(figures, back, other).shows(kind, 10), False)
        # More figures than needed are not the fewest.
        for bent in (lost + (Lost(8, 0),), lost + (None,)):
            self.assertIs(Fewest(figures + 1, more, bent).shows(kind, 10), False)

    def test_equality(self):
        check_equality(self, Fewest, [2, Back({}), (Lost(1, 2),)], [3, Lost(1, 1), (Lost(2, 2),)])
        self.assertIs(type(Fewest(2, None, [Lost(1, 2)]).lost), tuple)


if __name__ == "__main__":
    unittest.main()
