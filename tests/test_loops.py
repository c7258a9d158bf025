"""Turns of a loop that meet one cell ([41], [42])."""

import unittest

from pointorstrip.errors import BadNumber
from pointorstrip.leasts import Least
from pointorstrip.loops import Access, Width, closest, meetings, width
from pointorstrip.papers import Empty, Point, Thin
from pointorstrip.regions import Region
from trying import check_equality, generator, refutes

MOST = 10 ** 18

LAST_ROWS = {
    "ahead": [(1, -1, -1)], "same": [(1, -1, 0), (-1, 1, 0)], "behind": [(-1, 1, -1)],
}


def rows_of(one, other, turns, kind):
    """The rows of the region for one of the three kinds, as the document tells them."""
    t, g, u, h = one.times, one.more, other.times, other.more
    return [(t, -u, h - g), (-t, u, g - h), (-1, 0, 0), (1, 0, turns - 1), (0, -1, 0),
            (0, 1, turns - 1)] + LAST_ROWS[kind]


def met(one, other, turns, kind):
    """All pairs of turns that meet one cell, by trying."""
    found = []
    for i in range(turns):
        for j in range(turns):
            if one.times * i + one.more == other.times * j + other.more:
                if (i < j, i == j, i > j)[("ahead", "same", "behind").index(kind)]:
                    found.append((i, j))
    return found


def some_access(chance):
    return Access(chance.choice([0, 0, 1, -1, 2, -2, 3, 5, -4, 7]), chance.randint(-12, 12))


class AccessTest(unittest.TestCase):
    def test_cell(self):
        access = Access(3, -5)
        self.assertEqual([access.cell(turn) for turn in (0, 1, 5, -2, MOST)],
                         [-5, -2, 10, -11, 3 * MOST - 5])
        self.assertEqual(Access(0, 7).cell(MOST), 7)
        self.assertEqual(Access(-MOST, MOST).cell(3), -2 * MOST)

    def test_errors(self):
        for times, more, value in (
            (None, "more", None), (MOST + 1, None, MOST + 1), (-MOST - 1, 5, -MOST - 1), (True, 5, True),
            (1.0, 5, 1.0), (5, None, None), (5, MOST + 1, MOST + 1), (5, -MOST - 1, -MOST - 1),
            (5, False, False), (5, "1", "1"),
        ):
            with self.assertRaises(BadNumber) as caught:
                Access(times, more)
            self.assertEqual(caught.exception.value, value)
            self.assertIs(type(caught.exception.value), type(value))
        for times, more in ((MOST, MOST), (-MOST, -MOST), (0, 0)):
            access = Access(times, more)
            self.assertEqual((access.times, access.more), (times, more))

    def test_equality(self):
        check_equality(self, Access, [1, 2], [2, 1])


class MeetingsTest(unittest.TestCase):
    def check(self, one, other, turns):
        """meetings(..) and closest(..), held against what the document says of them."""
        found = meetings(one, other, turns)
        self.assertIs(type(found), dict)
        self.assertEqual(sorted(found), ["ahead", "behind", "same"])
        for kind in found:
            told = found[kind]
            rows = rows_of(one, other, turns, kind)
            if isinstance(told, Point):
                self.assertTrue(Region(rows).has(told.x, told.y))
                self.assertEqual(one.cell(told.x), other.cell(told.y))
            else:
                self.assertTrue(refutes(told, rows))
        near = closest(one, other, turns)
        rows = rows_of(one, other, turns, "ahead")
        if isinstance(near, Least):
            self.assertTrue(near.shows(Region(rows), -1, 1))
            self.assertEqual(near.value, near.y - near.x)
            self.assertGreater(near.value, 0)
        else:
            self.assertTrue(refutes(near, rows))
        self.assertEqual(isinstance(near, Least), bool(found["ahead"]))
        return found, near

    def test_against_all_pairs(self):
        chance = generator(411)
        seen = {}
        for _ in range(400):
            one, other = some_access(chance), some_access(chance)
            turns = chance.randint(1, 12)
            found, near = self.check(one, other, turns)
            for kind in LAST_ROWS:
                pairs = met(one, other, turns, kind)
                self.assertEqual(bool(found[kind]), bool(pairs))
                if pairs:
                    self.assertIn((found[kind].x, found[kind].y), pairs)
                seen[kind, bool(pairs)] = seen.get((kind, bool(pairs)), 0) + 1
            pairs = met(one, other, turns, "ahead")
            if pairs:
                self.assertEqual(near.value, min(j - i for i, j in pairs))
        self.assertEqual(len(seen), 6)
        self.assertGreater(min(seen.values()), 20)

    def test_by_hand(self):
        found, near = self.check(Access(1, 0), Access(1, -3), 10)
        self.assertEqual([bool(found[kind]) for kind in ("ahead", "same", "behind")], [True, False, False])
        self.assertEqual(near.value, 3)
        found, near = self.check(Access(1, 0), Access(1, -3), 3)
        self.assertEqual([bool(found[kind]) for kind in found], [False] * 3)
        self.assertFalse(near)
        found, near = self.check(Access(1, -3), Access(1, 0), 10)
        self.assertEqual([bool(found[kind]) for kind in ("ahead", "same", "behind")], [False, False, True])
        found, near = self.check(Access(2, 0), Access(2, 1), MOST)
        self.assertEqual([bool(found[kind]) for kind in found], [False] * 3)
        self.assertIsInstance(found["same"], (Thin, Empty))
        found, near = self.check(Access(0, 5), Access(0, 5), 2)
        self.assertEqual([bool(found[kind]) for kind in found], [True] * 3)
        self.assertEqual(near.value, 1)
        found, near = self.check(Access(0, 5), Access(0, 5), 1)
        self.assertEqual([bool(found[kind]) for kind in ("ahead", "same", "behind")], [False, True, False])

    def test_long_loops(self):
        found, near = self.check(Access(3, 0), Access(5, 1), MOST)
        self.assertEqual([bool(found[kind]) for kind in ("ahead", "same", "behind")], [False, False, True])
        found, near = self.check(Access(5, 0), Access(3, 1), MOST)
        self.assertEqual((near.x, near.y, near.value), (2, 3, 1))
        found, near = self.check(Access(MOST, -MOST), Access(MOST - 1, MOST), MOST)
        self.assertEqual((found["behind"].x, found["behind"].y), (2, 0))
        self.assertFalse(found["ahead"])
        found, near = self.check(Access(1, 0), Access(-1, MOST - 1), MOST)
        self.assertEqual(near.value, 1)
        found, near = self.check(Access(1, 0), Access(-1, MOST), MOST)
        self.assertEqual(near.value, 2)
        found, near = self.check(Access(1, 0), Access(1, 1 - MOST), MOST)
        self.assertEqual(near.value, MOST - 1)
        found, near = self.check(Access(1, 0), Access(1, -MOST), MOST)
        self.assertFalse(near)
        chance = generator(412)
        for _ in range(60):
            pairs = [(chance.randint(-MOST, MOST), chance.randint(-MOST, MOST)) for _ in range(2)]
            self.check(Access(*pairs[0]), Access(*pairs[1]), chance.randint(1, MOST))

    def check_turns(self, function, *arguments):
        for turns in (0, -1, MOST + 1, None, True, 5.0, "5"):
            with self.assertRaises(BadNumber) as caught:
                function(*arguments, turns)
            self.assertIs(caught.exception.value, turns)
        function(*arguments, 1)
        function(*arguments, MOST)

    def test_errors(self):
        self.check_turns(meetings, Access(1, 0), Access(1, -3))
        self.check_turns(closest, Access(1, 0), Access(1, -3))
        self.check_turns(width, [Access(1, 0)], [Access(1, -3)])
        self.check_turns(width, [], [])


class WidthTest(unittest.TestCase):
    def check(self, writes, reads, turns):
        """width(..), held against what the document says of it."""
        found = width(writes, reads, turns)
        self.assertIsInstance(found, Width)
        self.assertTrue(found)
        self.assertIs(found.shows(writes, reads, turns), True)
        both = list(writes) + list(reads)
        keys = [(p, q) for p in range(len(both)) for q in range(len(both))
                if p < len(writes) or q < len(writes)]
        self.assertIs(type(found.told), dict)
        self.assertEqual(sorted(found.told), keys)
        for p, q in keys:
            self.assertEqual(found.told[p, q], closest(both[p], both[q], turns))
        return found.number

    def test_against_all_pairs(self):
        chance = generator(421)
        seen = {}
        for _ in range(150):
            writes = [some_access(chance) for _ in range(chance.randint(0, 3))]
            reads = [some_access(chance) for _ in range(chance.randint(0, 3))]
            turns = chance.randint(1, 9)
            number = self.check(writes, reads, turns)
            both = writes + reads
            told = [j - i for p, one in enumerate(both) for q, other in enumerate(both)
                    if min(p, q) < len(writes) for i, j in met(one, other, turns, "ahead")]
            self.assertEqual(number, min(told) if told else None)
            seen[number] = True
        self.assertLessEqual({None, 1, 2, 3}, set(seen))

    def test_by_hand(self):
        # row[i + 3] = row[i]: three turns at once.
        self.assertEqual(self.check([Access(1, 3)], [Access(1, 0)], 100), 3)
        self.assertEqual(self.check([Access(1, 3)], (Access(1, 0),), 3), None)
        self.assertEqual(self.check((Access(1, 3),), [Access(1, 0)], 4), 3)
        # What is read ahead of being written counts as well.
        self.assertEqual(self.check([Access(1, 0)], [Access(1, 7)], MOST), 7)
        # Two reads do not count; a write that meets itself does.
        self.assertIsNone(self.check([], [Access(0, 1), Access(0, 1)], 50))
        self.assertIsNone(self.check([Access(1, 0)], [Access(1, 0)], 50))
        self.assertEqual(self.check([Access(0, 1)], [], 50), 1)
        self.assertEqual(self.check([Access(2, 0), Access(2, 6)], [], 50), 3)
        self.assertIsNone(self.check([], [], 50))
        self.assertEqual(self.check([Access(3, 0)], [Access(3, 1), Access(3, -12)], MOST), 4)
        self.assertEqual(self.check([Access(1, 0)], [Access(1, 1 - MOST)], MOST), MOST - 1)

    def test_shows(self):
        writes, reads = [Access(1, 3), Access(2, 0)], [Access(1, 0), Access(0, 4)]
        found = width(writes, reads, 20)
        number, told = found.number, found.told
        self.assertEqual(len(told), 12)
        self.assertIs(Width(number, dict(told)).shows(writes, reads, 20), True)
        self.assertIs(Width(number, told).shows(tuple(writes), tuple(reads), 20), True)
        for other in (None, 0, number - 1, number + 1):
            self.assertIs(Width(other, told).shows(writes, reads, 20), False)
        for rest in ((writes, reads, 2), (writes, reads[:1], 20), (writes[:1], reads, 20),
                     (reads, writes, 20), (writes[::-1], reads, 20)):
            self.assertIs(Width(number, told).shows(*rest), False)
        for pair in told:
            less = {other: told[other] for other in told if other != pair}
            self.assertIs(Width(number, less).shows(writes, reads, 20), False)
            self.assertIs(Width(number, {**less, (9, 9): told[pair]}).shows(writes, reads, 20), False)
            for other in (None, Point(0, 1), Thin(0, 1), Thin(0, 0), Empty([0] * 7), 5,
                          Least(1, 0, 1, Empty([0] * 8)), Least(99, 0, 99, Thin(1, 0))):
                if other != told[pair]:
                    self.assertIs(Width(number, {**less, pair: other}).shows(writes, reads, 20), False)
        self.assertIs(Width(number, {**told, (2, 3): told[(0, 0)]}).shows(writes, reads, 20), False)
        self.assertIs(Width(None, {}).shows([], reads, 20), True)
        self.assertIs(Width(1, {}).shows([], reads, 20), False)

    def test_equality(self):
        check_equality(self, Width, [1, {(0, 0): Thin(1, 0)}], [2, {}])
        told = {(0, 0): Thin(1, 0)}
        found = Width(None, told)
        told.clear()
        self.assertEqual(len(found.told), 1)


if __name__ == "__main__":
    unittest.main()
