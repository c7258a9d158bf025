"""Conditions, and whether they hold for all whole x and y ([39], [40])."""

import itertools
import unittest
from math import lcm

from pointorstrip.errors import PlaneError, TooLarge
from pointorstrip.formulas import Always, BadFormula, Fails, judge_always, judge_same
from pointorstrip.papers import Empty, Point, Thin
from trying import check_equality, generator, refutes


def holds(told, x, y):
    """Whether a condition holds at a place, as the document tells it."""
    word, *parts = told
    if word == "row":
        a, b, c = parts
        return a * x + b * y <= c
    if word == "rest":
        a, b, c, m = parts
        return (a * x + b * y - c) % m == 0
    if word == "not":
        return not holds(parts[0], x, y)
    return (all if word == "and" else any)(holds(part, x, y) for part in parts)


def rests_of(told):
    if told[0] in ("row", "rest"):
        return [told[4]] if told[0] == "rest" else []
    return [m for part in told[1:] for m in rests_of(part)]


def clauses(told, failing, r, s):
    """The clauses of holding or failing, as the document lists them."""
    word, *parts = told
    if word == "row":
        a, b, c = parts
        return [((-a, -b, -c - 1) if failing else (a, b, c),)]
    if word == "rest":
        return [()] if holds(told, r, s) != failing else []
    if word == "not":
        return clauses(parts[0], not failing, r, s)
    inner = [clauses(part, failing, r, s) for part in parts]
    if (word == "and") == failing:
        return list(itertools.chain(*inner))
    return [tuple(itertools.chain(*some)) for some in itertools.product(*inner)]


def regions_of(told):
    """The rows for each key of an Always."""
    M = lcm(1, *rests_of(told))
    return {
        (r, s, n): [(a * M, b * M, c - a * r - b * s) for a, b, c in rows]
        for r in range(M) for s in range(M) for n, rows in enumerate(clauses(told, True, r, s))
    }


def nested(told, deep):
    """The condition with so many nots around it."""
    for _ in range(deep):
        told = ("not", told)
    return told


ROW = ("row", 1, 2, 3)
REST = ("rest", 1, 0, 0, 2)


class AlwaysTest(unittest.TestCase):
    def check(self, told):
        """judge_always(told), held against what the document says of it."""
        found = judge_always(told)
        self.assertIs(found.shows(told), True)
        self.assertIs(bool(found), isinstance(found, Always))
        if isinstance(found, Fails):
            self.assertFalse(holds(told, found.x, found.y))
        else:
            self.assertIsInstance(found, Always)
            regions = regions_of(told)
            self.assertEqual(sorted(found.papers), sorted(regions))
            for key in regions:
                self.assertTrue(refutes(found.papers[key], regions[key]), (told, key))
        return bool(found)

    def test_rows(self):
        self.assertFalse(self.check(("row", 1, 0, 5)))
        self.assertTrue(self.check(("row", 0, 0, 0)))
        self.assertFalse(self.check(("row", 0, 0, -1)))
        self.assertTrue(self.check(("or", ("row", 1, 0, 5), ("row", -1, 0, -6))))
        self.assertFalse(self.check(("or", ("row", 1, 0, 5), ("row", -1, 0, -7))))
        self.assertTrue(self.check(("or", ("row", 3, 0, 5), ("row", -3, 0, -6))))
        self.assertTrue(self.check(("not", ("and", ("row", 2, 4, 1), ("row", -2, -4, -1)))))
        self.assertFalse(self.check(("not", ("and", ("row", 7, 12, 5), ("row", -7, -12, -5)))))

    def test_rests(self):
        even, odd = ("rest", 1, 0, 0, 2), ("rest", 1, 0, 1, 2)
        self.assertFalse(self.check(even))
        self.assertTrue(self.check(("or", even, odd)))
        self.assertTrue(self.check(("not", ("and", even, odd))))
        self.assertTrue(self.check(("rest", 5, -3, 7, 1)))
        self.assertTrue(self.check(("rest", 4, 2, -6, 2)))
        self.assertFalse(self.check(("rest", 4, 2, -5, 2)))
        self.assertTrue(self.check(("or", ("not", ("rest", 1, 0, 0, 4)), even)))
        self.assertFalse(self.check(("or", ("not", even), ("rest", 1, 0, 0, 4))))
        # Three and four divide just what twelve does.
        three, four, twelve = [("rest", 1, 1, -5, m) for m in (3, 4, 12)]
        self.assertTrue(self.check(("or", ("not", three), ("not", four), twelve)))
        self.assertTrue(self.check(("or", ("and", three, four), ("not", twelve))))
        self.assertFalse(self.check(("or", ("not", three), four)))

    def test_rests_and_rows(self):
        # An even number from 5 on is 6 or more.
        self.assertTrue(self.check(
            ("or", ("not", ("rest", 1, 0, 0, 2)), ("not", ("row", -1, 0, -5)), ("row", -1, 0, -6))))
        self.assertFalse(self.check(
            ("or", ("not", ("rest", 1, 0, 1, 2)), ("not", ("row", -1, 0, -5)), ("row", -1, 0, -6))))
        # x + 2 y = 4 with x odd: none.
        line = ("and", ("row", 1, 2, 4), ("row", -1, -2, -4))
        self.assertTrue(self.check(("not", ("and", line, ("rest", 1, 0, 1, 2)))))
        self.assertFalse(self.check(("not", ("and", line, ("rest", 1, 0, 2, 4)))))

    def some_condition(self, chance, deep):
        kind = chance.choice(["row", "row", "rest"] if deep == 0 else ["and", "or", "not", "and", "or"])
        if kind == "row":
            return ("row",) + tuple(chance.randint(-3, 3) for _ in range(2)) + (chance.randint(-4, 4),)
        if kind == "rest":
            return ("rest",) + tuple(chance.randint(-4, 4) for _ in range(3)) + (
                chance.choice([1, 2, 2, 3, 4]),)
        if kind == "not":
            return ("not", self.some_condition(chance, deep - 1))
        return (kind,) + tuple(self.some_condition(chance, chance.randint(0, deep - 1))
                               for _ in range(chance.randint(1, 3)))

    def test_against_a_box(self):
        chance = generator(391)
        told = [0, 0]
        for _ in range(700):
            condition = self.some_condition(chance, chance.randint(0, 3))
            if chance.random() < 0.5:
                # What follows from itself, with something bent perhaps.
                other = self.some_condition(chance, 1) if chance.random() < 0.3 else condition
                condition = ("or", ("not", condition), other)
            leaves = str(condition).count("'row'") + str(condition).count("'rest'")
            if leaves > 12 or lcm(1, *rests_of(condition)) > 12:
                continue
            found = self.check(condition)
            inside = all(holds(condition, x, y) for x in range(-12, 13) for y in range(-12, 13))
            if found:
                self.assertTrue(inside, condition)
            else:
                self.assertFalse(all(holds(condition, x, y)
                                     for x in range(-60, 61) for y in range(-60, 61)) and inside)
            told[found] += 1
        self.assertGreater(min(told), 100)

    def test_words_within_one_another(self):
        one, two = ("row", 1, 0, 0), ("row", 0, 1, 0)
        for told, does in (
            (("not", ("not", ("row", 0, 0, 0))), True), (("not", ("row", 0, 0, -1)), True),
            (("and", ("row", 0, 0, 0)), True), (("or", ("row", 0, 0, -1)), False),
            (("or", one, ("not", one)), True), (("and", one, ("not", one)), False),
            (("or", ("and", one, two), ("not", one), ("not", two)), True),
            (("or", ("and", one, two), ("not", ("and", one, two))), True),
            (("not", ("and", ("or", one, two), ("not", one), ("not", two))), True),
            (("or", ("not", ("or", one, two)), one, two), True), (("or", ("or", one, two), ("not", one)), True),
            (("or", ("and", one, two), ("not", one)), False), (("and", ("or", one, ("not", one)),
                                                               ("or", two, ("not", two))), True),
        ):
            self.assertEqual(self.check(told), does, told)

    def test_order_of_clauses(self):
        rows = [("row", number, 0, 0) for number in range(1, 5)]
        a, b, c, d = [(-number, 0, -1) for number in range(1, 5)]
        e, f, g, h = [(number, 0, 0) for number in range(1, 5)]
        for told, clause in (
            (("and",) + tuple(rows), [[a], [b], [c], [d]]), (("or",) + tuple(rows), [[a, b, c, d]]),
            (("or", ("and", rows[0], rows[1]), ("and", rows[2], rows[3])),
             [[a, c], [a, d], [b, c], [b, d]]),
            (("and", ("or", rows[0], rows[1]), ("or", rows[2], rows[3])), [[a, b], [c, d]]),
            (("not", ("and", ("or", rows[0], rows[1]), ("or", rows[2], rows[3]))),
             [[e, g], [e, h], [f, g], [f, h]]),
            (("not", ("or",) + tuple(rows)), [[e], [f], [g], [h]]),
        ):
            false = ("row", 0, 0, -1)
            always = ("or", told, ("not", false))
            # With a row that holds nowhere at the end each clause is refuted by that row alone.
            found = judge_always(always)
            self.assertIs(bool(found), True)
            self.assertEqual(sorted(found.papers), [(0, 0, number) for number in range(len(clause))])
            papers = {(0, 0, number): Empty([0] * len(rows) + [1]) for number, rows in enumerate(clause)}
            self.assertIs(Always(papers).shows(always), True)
            self.assertEqual([list(some) for some in clauses(told, True, 0, 0)], clause)

    def test_keys(self):
        always = ("or", ("rest", 1, 0, 0, 2), ("rest", 1, 0, 1, 2), ("rest", 0, 1, 1, 3))
        self.assertEqual(judge_always(always).papers, {})
        told = ("or", ("rest", 1, 0, 0, 2), ("rest", 0, 1, 1, 3), ("row", 0, 0, 0), ("row", 0, 0, 5))
        found = judge_always(told)
        self.assertEqual(sorted(found.papers),
                         [(r, s, 0) for r in (1, 3, 5) for s in (0, 2, 3, 5)])
        told = ("and", ("or", ("row", 0, 0, 1), ("rest", 1, 0, 0, 2)), ("row", 0, 0, 1))
        self.assertEqual(sorted(judge_always(told).papers),
                         [(0, 0, 0), (0, 1, 0), (1, 0, 0), (1, 0, 1), (1, 1, 0), (1, 1, 1)])
        told = ("and",) + (("row", 0, 0, 1),) * 12
        self.assertEqual(sorted(judge_always(told).papers), [(0, 0, number) for number in range(12)])

    def test_many_clauses(self):
        # Eighty-one clauses, at all rests by twelve.
        some = tuple(("and", *[("row", 0, 0, number)] * 3) for number in range(3))
        told = ("or", *some, ("row", 0, 0, 0), ("rest", 0, 0, 1, 3), ("rest", 0, 0, 1, 4))
        self.assertTrue(self.check(told))
        self.assertEqual(len(judge_always(told).papers), 144 * 27)

    def test_same(self):
        one, two = ("row", 1, 0, 0), ("row", 0, 1, 0)
        for first, second, does in (
            (one, one, True), (one, two, False), (("not", ("and", one, two)),
                                                 ("or", ("not", one), ("not", two)), True),
            (("row", 2, 0, 5), ("row", 1, 0, 2), True), (("row", 2, 0, 4), ("row", 1, 0, 2), True),
            (("row", 2, 0, 6), ("row", 1, 0, 2), False), (("row", 2, 0, 3), ("row", 1, 0, 2), False),
            (("rest", 1, 0, 3, 6), ("and", ("rest", 1, 0, 0, 3), ("rest", 1, 0, 1, 2)), True),
            (("rest", 1, 0, 0, 6), ("and", ("rest", 1, 0, 0, 3), ("rest", 1, 0, 1, 2)), False),
            (("rest", 2, 0, 0, 4), ("rest", 1, 0, 0, 2), True),
            (("not", ("row", 1, 0, 5)), ("row", -1, 0, -6), True),
        ):
            found = judge_same(first, second)
            told = ("and", ("or", ("not", first), second), ("or", first, ("not", second)))
            self.assertEqual(found, judge_always(told))
            self.assertIs(bool(found), does)
            self.assertIs(found.shows(told), True)
            self.assertIs(bool(judge_same(second, first)), does)
            if not found:
                self.assertNotEqual(holds(first, found.x, found.y), holds(second, found.x, found.y))

    def test_long_numbers(self):
        most = 10 ** 40 - 1
        self.assertTrue(self.check(("or", ("row", most, 0, most), ("row", -most, 0, -most - 0))))
        self.assertTrue(self.check(("or", ("row", most, 0, 5), ("row", -most, 0, -6))))
        self.assertTrue(self.check(("rest", 12 * 10 ** 38, -12 * 10 ** 38, 24 * 10 ** 38, 12)))
        self.assertFalse(self.check(("not", ("and", ("row", most, most - 1, 1),
                                             ("row", -most, 1 - most, -1), ("rest", 1, 0, 5, 12)))))


class ShowsTest(unittest.TestCase):
    def test_always(self):
        told = ("and", ("or", ("row", 3, 0, 5), ("row", -3, 0, -6)),
                ("or", ("not", ("rest", 1, 0, 1, 2)), ("row", 2, 0, 3), ("row", -2, 0, -5)))
        found = judge_always(told)
        papers = found.papers
        self.assertIs(Always(dict(papers)).shows(told), True)
        self.assertEqual(sorted(papers), sorted(regions_of(told)))
        for key in papers:
            less = {other: papers[other] for other in papers if other != key}
            self.assertIs(Always(less).shows(told), False)
            for paper in (None, Point(0, 0), Thin(0, 1), Thin(2, 0), Empty([0, 0]), Empty([1]),
                          Fails(0, 0), Empty([0] * 4)):
                self.assertIs(Always({**less, key: paper}).shows(told), False)
            for other in ((key[0] + 2, key[1], key[2]), (key[0], key[1], 9), (-1, 0, 0), None):
                self.assertIs(Always({**less, other: papers[key]}).shows(told), False)
                self.assertIs(Always({**papers, other: papers[key]}).shows(told), False)
        for other in (("row", 0, 0, 0), ("row", 1, 0, 0), ("rest", 1, 0, 0, 2), told[1], told[2],
                      ("or",) + told[1:], ("not", told)):
            self.assertIs(found.shows(other), False)
        self.assertIs(Always({}).shows(("rest", 1, 0, 0, 1)), True)
        self.assertIs(Always({}).shows(("rest", 1, 0, 0, 2)), False)

    def test_fails(self):
        told = ("or", ("row", 1, 0, 0), ("rest", 0, 1, 1, 3))
        for x in range(-3, 4):
            for y in range(-7, 8):
                self.assertIs(Fails(x, y).shows(told), not holds(told, x, y))

    def test_large_conditions(self):
        # What is asked of judge_always is not asked of evidence.
        told = nested(("row", 0, 0, 10 ** 500), 30)
        self.assertIs(Fails(0, 0).shows(told), False)
        self.assertIs(Always({(0, 0, 0): Empty([1])}).shows(told), True)
        told = ("or",) + (("row", 0, 0, 1),) * 40
        self.assertIs(Always({(0, 0, 0): Empty([0] * 39 + [1])}).shows(told), True)
        told = ("or", ("rest", 1, 0, 0, 20), ("row", 0, 0, 1))
        papers = {(r, s, 0): Empty([1]) for r in range(1, 20) for s in range(20)}
        self.assertIs(Always(papers).shows(told), True)
        del papers[(3, 7, 0)]
        self.assertIs(Always(papers).shows(told), False)

    def test_equality(self):
        check_equality(self, Always, [{(0, 0, 0): Thin(1, 0)}], [{(0, 0, 0): Thin(0, 1)}])
        check_equality(self, Fails, [3, 4], [4, 3])
        papers = {(0, 0, 0): Thin(1, 0)}
        found = Always(papers)
        papers.clear()
        self.assertEqual(len(found.papers), 1)


class ErrorsTest(unittest.TestCase):
    def bad(self, told, part):
        with self.assertRaises(BadFormula) as caught:
            judge_always(told)
        self.assertIsInstance(caught.exception, PlaneError)
        self.assertIs(caught.exception.part, part)

    BAD = (
        None, 5, True, "row", "", [], ["row", 1, 2, 3], {}, (), ("row",), ("row", 1, 2), ("row", 1, 2, 3, 4),
        ("row", 1, 2, None), ("row", True, 2, 3), ("row", 1, 2.0, 3), ("row", 1, 2, "3"), ("rest",),
        ("rest", 1, 2, 3), ("rest", 1, 2, 3, 0), ("rest", 1, 2, 3, -5), ("rest", 1, 2, 3, None),
        ("rest", 1, 2, 3, True), ("rest", None, 2, 3, 4), ("rest", 1, 2, 3, 4, 5), ("rest", 1, 2, False, 4),
        ("and",), ("or",), ("not",), ("not", ROW, ROW), ("Row", 1, 2, 3), ("xor", ROW, ROW), (ROW,),
        (None, ROW), (1, 2, 3, 4), ("", ROW), (("and",), ROW), (["row"], 1, 2, 3),
    )

    def test_each_way_to_be_none(self):
        for part in self.BAD:
            self.bad(part, part)
            for told in (("not", part), ("and", part), ("or", part), ("or", ROW, part), ("and", ROW, part, None),
                         ("not", ("or", ("and", ROW, REST), part, ROW)), ("and", ("not", ROW), ("or", part), 7)):
                self.bad(told, part)

    def test_the_first_one(self):
        # A part comes ahead of its own parts, these ahead of the next one.
        deep = ("not", None, None)
        self.bad(("and", ("or", ROW, deep), 5), deep)
        self.bad(("and", ("or", ROW, ("not", "x")), ("row",)), "x")
        whole = ("not", None, 5)
        self.bad(whole, whole)
        empty = ("or",)
        self.bad(("and", ROW, empty, ("not", 5)), empty)
        self.bad(("and", ("not", ("not", ("and", "a", "b"))), "c"), "a")

    def test_deep(self):
        judge_always(nested(ROW, 7))
        judge_always(("and", ROW, nested(ROW, 6)))
        for deep in (8, 9, 30):
            told = nested(ROW, deep)
            part = told
            for _ in range(8):
                part = part[1]
            self.bad(told, part)
        self.bad(nested(("and", ROW, REST), 7), ROW)
        self.bad(nested(None, 8), None)
        self.bad(nested(None, 7), None)
        # What lies too deep is told as it is come to.
        row = ("row", 5, 5, 5)
        self.bad(("and", nested(row, 7), None), row)
        self.bad(("and", None, nested(row, 7)), None)
        self.bad(("and", nested(row, 6), None), None)
        # The one lies within and, or, not; the other one at first within and, or.
        judge_same(nested(ROW, 4), nested(ROW, 4))
        for one, other in ((5, 4), (5, 6), (4, 5)):
            with self.assertRaises(BadFormula) as caught:
                judge_same(nested(row if one == 5 else ROW, one), nested(ROW if one == 5 else row, other))
            self.assertIs(caught.exception.part, row)

    def large(self, told, number):
        with self.assertRaises(TooLarge) as caught:
            judge_always(told)
        self.assertEqual(caught.exception.number, number)

    def test_too_large(self):
        most = 10 ** 40
        twelve = (ROW,) * 11 + (REST,)
        judge_always(("or",) + twelve)
        judge_always(("or", ("rest", 1, 0, 0, 12), ("rest", 1, 0, 0, 4)))
        judge_always(("and", ("row", most - 1, 1 - most, most - 1), ("rest", most - 1, 1 - most, 1 - most, 2)))
        self.large(("or",) + twelve + (ROW,), 13)
        self.large(("or",) + twelve + (REST,), 13)
        self.large(("and", ("not", ("or",) + twelve), ("or",) + twelve), 24)
        self.large(("rest", 1, 0, 0, 13), 13)
        self.large(("and", ("rest", 1, 0, 0, 8), ("not", ("rest", 1, 0, 0, 3))), 24)
        self.large(("rest", 0, 0, 0, most), most)
        for at in (1, 2, 3):
            for sign in (1, -1):
                row, rest = list(ROW), list(REST)
                row[at] = rest[at] = sign * most
                self.large(tuple(row), 41)
                self.large(("or", ROW, ("not", tuple(rest))), 41)
        self.large(("or", ("row", most, 0, 0), ("rest", 0, 100 * most, 0, 2)), 43)
        # The number of parts, then the multiple, then the figures.
        long = ("row", most, 0, 0)
        self.large(("or", ("rest", 1, 0, 0, 13)) + (long,) * 12, 13)
        self.large(("or", ("rest", most, 0, 0, 17), long), 17)
        # BadFormula comes ahead of them.
        self.bad(("or",) + (long,) * 20 + ("x",), "x")
        with self.assertRaises(TooLarge) as caught:
            judge_same(("or",) + (ROW,) * 6, ROW)
        self.assertEqual(caught.exception.number, 14)
        judge_same(("or",) + (ROW,) * 5, ROW)


if __name__ == "__main__":
    unittest.main()
