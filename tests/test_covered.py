"""Whether each x of a range has a whole y ([46], [47])."""

import unittest

from pointorstrip.covered import Covered, Gap, Piece, covered
from pointorstrip.errors import BadNumber, TooLarge
from pointorstrip.papers import Empty, Point, Thin
from pointorstrip.regions import Region
from trying import check_equality, generator, refutes, some_turn


def has_y(region, x):
    """Whether some whole y is in the region at x, by going through the y next to each bound."""
    tried = [0]
    for a, b, c in region.rows:
        if b:
            y = (c - a * x) // b
            tried.extend([y - 1, y, y + 1, y + 2])
    return any(region.has(x, y) for y in tried)


def bound(row, x):
    """What a row says of y at x, as a pair: c - a x, and b without its sign."""
    return row[2] - row[0] * x, abs(row[1])


def is_tightest(rows, row, x):
    c, b = bound(row, x)
    others = [bound(other, x) for other in rows if other[1] * row[1] > 0]
    return all(d * b >= c * e for d, e in others)


def some_region(chance, most_rows=6):
    """Rows that bound y on both sides more often than not, and now and then x, too."""
    size = chance.choice([3, 9, 40])
    rows = []
    for _ in range(chance.randint(0, most_rows)):
        a, b = chance.randint(-size, size), chance.randint(1, size)
        rows.append((a, chance.choice([b, -b]), chance.randint(-size, 6 * size)))
    if chance.random() < 0.3:
        rows.append((chance.choice([1, -1, 2, 0]), 0, chance.randint(0, 30)))
    if chance.random() < 0.4:
        a, b, c = chance.randint(-9, 9), chance.randint(1, 9), chance.randint(-9, 9)
        rows.extend([(a, b, c), (-a, -b, chance.randint(b - 2, 2 * b) - c)])
    chance.shuffle(rows)
    return Region(rows)


class CoveredTest(unittest.TestCase):
    def check(self, region, low, high):
        """covered(..), held against what the document says of it."""
        found = covered(region, low, high)
        self.assertIs(found.shows(region, low, high), True)
        if isinstance(found, Gap):
            self.assertIs(bool(found), False)
            self.assertTrue(low <= found.x <= high)
            self.assertFalse(has_y(region, found.x))
            return False
        self.assertIsInstance(found, Covered)
        self.assertIs(bool(found), True)
        self.assertIs(type(found.pieces), tuple)
        self.check_pieces(region.rows, found.pieces, low, high)
        return True

    def check_pieces(self, rows, pieces, low, high):
        behind = low
        for piece in pieces:
            self.assertIsInstance(piece, Piece)
            self.assertEqual(piece.first, behind)
            self.assertLessEqual(piece.first, piece.last)
            behind = piece.last + 1
            for x in (piece.first, piece.last):
                self.assertTrue(all(a * x <= c for a, b, c in rows if b == 0))
            if len({b > 0 for _, b, _ in rows if b}) < 2:
                self.assertEqual((piece.below, piece.above, piece.paper), (None, None, None))
                continue
            a, b, c = rows[piece.below]
            p, q, r = rows[piece.above]
            self.assertTrue(b < 0 < q)
            for x in (piece.first, piece.last):
                self.assertTrue(is_tightest(rows, (a, b, c), x) and is_tightest(rows, (p, q, r), x))
            self.assertTrue(refutes(piece.paper, [
                (-1, 0, -piece.first), (1, 0, piece.last), (-a, -b, -c - b - 1), (-p, -q, -r - 1)]))
        self.assertEqual(behind, high + 1 if low <= high else low)

    def test_against_going_through(self):
        chance = generator(461)
        seen = {}
        for _ in range(1500):
            region = some_region(chance)
            low = chance.randint(-15, 15)
            high = low + chance.choice([-3, -1, 0, 1, 5, 12])
            told = self.check(region, low, high)
            self.assertEqual(told, all(has_y(region, x) for x in range(low, high + 1)))
            both = len({b > 0 for _, b, _ in region.rows if b}) == 2
            seen[told, both, min(high - low, 1)] = seen.get((told, both, min(high - low, 1)), 0) + 1
            if told and both and len(covered(region, low, high).pieces) > 1:
                seen["pieces"] = seen.get("pieces", 0) + 1
        self.assertGreater(min(seen[told, True, 1] for told in (True, False)), 100)
        self.assertGreater(seen["pieces"], 20)

    def test_by_hand(self):
        # From x / 2 to x / 2 + 1 / 2: there is always one.
        strip = Region([(-1, 2, 1), (1, -2, 0)])
        self.assertTrue(self.check(strip, -10, 10))
        self.assertTrue(self.check(strip, -10 ** 60, 10 ** 60))
        # From x / 2 to x / 2 + 1 / 3: for even x alone.
        narrow = Region([(-3, 6, 2), (1, -2, 0)])
        self.assertFalse(self.check(narrow, -10, 10))
        self.assertTrue(self.check(narrow, 4, 4))
        self.assertFalse(self.check(narrow, 5, 5))
        self.assertTrue(self.check(narrow, 5, 4))
        # Nothing at all between both bounds.
        self.assertFalse(self.check(Region([(0, 1, 3), (0, -1, -7)]), 0, 9))
        wedge = Region([(-1, 1, 0), (0, -1, 0), (1, 1, 20)])
        self.assertTrue(self.check(wedge, 0, 20))
        self.assertEqual([(piece.first, piece.last, piece.below, piece.above)
                          for piece in covered(wedge, 0, 20).pieces], [(0, 9, 1, 0), (10, 20, 1, 2)])
        self.assertFalse(self.check(wedge, -1, 20))
        self.assertFalse(self.check(wedge, 0, 21))

    def test_rows_without_y(self):
        # They hold at one end alone, at both, at none.
        for rows in ([], [(0, 1, 5)], [(0, -1, 5)], [(0, 1, 5), (0, -1, 5)]):
            upright = Region([(1, 0, 9), (-1, 0, 3)] + rows)
            self.assertTrue(self.check(upright, -3, 9))
            self.assertFalse(self.check(upright, -4, 9))
            self.assertFalse(self.check(upright, -3, 10))
            self.assertFalse(self.check(upright, -4, 10))
            self.assertTrue(self.check(upright, 11, 10))
            self.assertFalse(self.check(Region([(0, 0, -1)] + rows), 2, 2))
            self.assertTrue(self.check(Region([(0, 0, -1)] + rows), 2, 1))
            self.assertTrue(self.check(Region([(0, 0, 0)] + rows), 2, 7))

    def test_without_bounds(self):
        for rows in ([], [(3, 7, 5)], [(3, 7, 5), (-5, 2, 8)], [(3, -7, 5)], [(1, 0, 10 ** 90)]):
            found = covered(Region(rows), -5, 10 ** 80)
            self.assertEqual(found, Covered((Piece(-5, 10 ** 80, None, None, None),)))
            self.assertTrue(self.check(Region(rows), -5, 10 ** 80))
            self.assertEqual(covered(Region(rows), -5, -6), Covered(()))

    def test_long_ranges(self):
        most = 10 ** 50
        # (7 x + 3) / 10 rounded is there for each x, and nothing closer.
        self.assertTrue(self.check(Region([(-7, 10, 3), (7, -10, 6)]), -most, most))
        self.assertFalse(self.check(Region([(-7, 10, 3), (7, -10, 5)]), -most, most))
        # Of m rests one is missed, at one x of m.
        m = 10 ** 30 + 57
        rows = [(-7, m, 0), (7, -m, m - 2)]
        x = pow(7, -1, m) * (m - 1) % m
        self.assertFalse(has_y(Region(rows), x))
        self.assertTrue(self.check(Region(rows), x + 1, x + m - 1))
        self.assertTrue(self.check(Region(rows), x - m + 1, x - 1))
        self.assertFalse(self.check(Region(rows), x - m + 1, x))
        self.assertFalse(self.check(Region(rows), x, x + m - 1))
        chance = generator(462)
        for _ in range(60):
            region = some_region(chance)
            turn = some_turn(chance, 10 ** 9)
            self.check(turn.region(region), -most, most)
            self.check(region, -most, most)
            self.check(Region([(a, b * 10 ** 12, c) for a, b, c in region.rows]), -most, most)

    def test_shows(self):
        wedge = Region([(-1, 1, 0), (0, -1, 0), (1, 1, 20), (1, 0, 30)])
        pieces = covered(wedge, 0, 20).pieces
        one, other = pieces
        self.assertIs(Covered(list(pieces)).shows(wedge, 0, 20), True)
        for some in ((), (one,), (other,), (other, one), (one, one), (one, other, other), (one, None),
                     (one, one, other), (one, 5)):
            self.assertIs(Covered(some).shows(wedge, 0, 20), False)
        for low, high in ((-1, 20), (1, 20), (0, 19), (0, 21), (0, 9), (10, 9), (5, 4)):
            self.assertIs(Covered(pieces).shows(wedge, low, high), False)
        self.assertIs(Covered((other,)).shows(wedge, 10, 20), True)
        first, last, below, above, paper = one.first, one.last, one.below, one.above, one.paper
        for bent in (
            (first, last, 0, above, paper), (first, last, 2, above, paper), (first, last, below, 1, paper),
            (first, last, below, 2, paper), (first, last, 3, above, paper), (first, last, below, 3, paper),
            (first, last, -3, above, paper), (first, last, below, 4, paper), (first, last, below, -4, paper),
            (first, last, None, above, paper), (first, last, below, None, paper),
            (first, last, None, None, None), (first, last, below, above, None),
            (first, last, below, above, Point(0, 0)), (first, last, below, above, Thin(2, 0)),
            (first, last, below, above, Empty([1, 1, 1, 1])), (first, last, below, above, Empty([1, 1])),
            (first + 1, last, below, above, paper), (first - 1, last, below, above, paper),
            (first, last + 1, below, above, paper), (first, last - 1, below, above, paper),
        ):
            self.assertIs(Covered((Piece(*bent), other)).shows(wedge, 0, 20), False, bent)
        self.assertIs(Covered(()).shows(wedge, 5, 4), True)
        self.assertIs(Covered(()).shows(wedge, 50, 4), True)
        self.assertIs(Covered(()).shows(wedge, 4, 4), False)

    def test_shows_asks_for_the_tightest_rows(self):
        # Row 2 is tightest at 0 alone, row 0 at 0 and on; rows that tie are as good.
        region = Region([(0, 1, 7), (0, -1, 0), (-1, 1, 7), (0, 2, 14)])
        for above in (0, 3):
            rows = [(-1, 0, 0), (1, 0, 5), (0, 1, 0), (0, -region.rows[above][1], -region.rows[above][2] - 1)]
            paper = next(told for told in (Empty([0, 0, region.rows[above][1], 1]), Thin(0, 1))
                         if told.shows(Region(rows)))
            self.assertIs(Covered([Piece(0, 5, 1, above, paper)]).shows(region, 0, 5), True)
        looser = [(-1, 0, 0), (1, 0, 5), (0, 1, 0), (1, -1, -8)]
        paper = next(told for told in (Empty([1, 0, 1, 1]), Thin(0, 1)) if told.shows(Region(looser)))
        self.assertIs(Covered([Piece(0, 5, 1, 2, paper)]).shows(region, 0, 5), False)
        # Rows with b = 0 must hold at both ends of each piece.
        for rows, high, told in (([(1, 0, 5)], 5, True), ([(1, 0, 5)], 6, False), ([(-1, 0, -1)], 6, False)):
            self.assertIs(Covered([Piece(0, high, None, None, None)]).shows(Region(rows), 0, high), told)
        for bent in ((0, 5, 0, None, None), (0, 5, None, 0, None), (0, 5, None, None, Thin(1, 0))):
            self.assertIs(Covered([Piece(*bent)]).shows(Region([(0, 1, 5)]), 0, 5), False)
        halves = [Piece(0, 2, None, None, None), Piece(3, 5, None, None, None)]
        self.assertIs(Covered(halves).shows(Region([]), 0, 5), True)
        self.assertIs(Covered(halves[::-1]).shows(Region([]), 0, 5), False)
        nothing = Piece(0, -1, None, None, None)
        self.assertIs(Covered([nothing] + halves).shows(Region([]), 0, 5), False)
        self.assertIs(Covered([nothing]).shows(Region([]), 0, -1), False)
        for low, high in ((0, -1), (0, -2), (0, 1), (0, 3)):
            self.assertIs(Covered(halves[:1]).shows(Region([]), low, high), False)
        self.assertIs(Covered(halves[:1]).shows(Region([]), 0, 2), True)

    def check_piece(self, rows, piece, weights, told):
        """The piece's paper shows for its rows, and the piece itself as told."""
        paper = Empty(weights)
        a, b, c = rows[piece[2]]
        p, q, r = rows[piece[3]]
        self.assertTrue(refutes(paper, [
            (-1, 0, -piece[0]), (1, 0, piece[1]), (-a, -b, -c - b - 1), (-p, -q, -r - 1)]))
        self.assertIs(Covered([Piece(*piece, paper)]).shows(Region(rows), piece[0], piece[1]), told)

    def test_shows_asks_for_the_right_side(self):
        rows = [(1, 0, 9), (0, 1, 7), (0, -1, 0)]
        self.check_piece(rows, (0, 5, 2, 1), [0, 0, 1, 1], True)
        # Rows of the other side, without y, or counted from behind.
        self.check_piece(rows, (0, 5, 1, 2), [0, 0, 1, 1], False)
        self.check_piece(rows, (0, 5, 0, 1), [0, 1, 1, 0], False)
        self.check_piece(rows, (0, 5, 2, 0), [0, 1, 0, 1], False)
        self.check_piece(rows, (0, 5, -1, 1), [0, 0, 1, 1], False)
        self.check_piece(rows, (0, 5, 2, -2), [0, 0, 1, 1], False)

    def test_shows_asks_for_both_ends(self):
        # Row 2 is tightest from x = 5 on, row 3 up to x = 5.
        rows = [(0, 1, 7), (0, -1, 0), (1, 1, 12), (-1, 1, 2)]
        self.check_piece(rows, (5, 8, 1, 2), [0, 1, 1, 1], True)
        self.check_piece(rows, (4, 8, 1, 2), [0, 1, 1, 1], False)
        self.check_piece(rows, (2, 5, 1, 3), [1, 0, 1, 1], True)
        self.check_piece(rows, (2, 6, 1, 3), [1, 0, 1, 1], False)
        turned = [(a, -b, c) for a, b, c in rows]
        self.check_piece(turned, (5, 8, 2, 1), [0, 1, 1, 1], True)
        self.check_piece(turned, (4, 8, 2, 1), [0, 1, 1, 1], False)
        self.check_piece(turned, (2, 5, 3, 1), [1, 0, 1, 1], True)
        self.check_piece(turned, (2, 6, 3, 1), [1, 0, 1, 1], False)

    def test_shows_of_a_gap(self):
        narrow = Region([(-3, 6, 2), (1, -2, 0), (1, 0, 9)])
        for x in range(-7, 17):
            self.assertIs(Gap(x).shows(narrow, -3, 12), -3 <= x <= 12 and (x % 2 == 1 or x > 9))
        self.assertIs(Gap(5).shows(narrow, 6, 4), False)
        self.assertIs(Gap(5).shows(Region([]), 0, 9), False)
        self.assertIs(Gap(5).shows(Region([(0, 0, -1)]), 0, 9), True)
        self.assertIs(Gap(10 ** 99).shows(Region([(1, 0, 5)] * 99), 0, 10 ** 100), True)

    def test_equality(self):
        piece = Piece(0, 5, None, None, None)
        check_equality(self, Covered, [(piece,)], [()])
        self.assertEqual(Covered([piece]), Covered((Piece(0, 5, None, None, None),)))
        check_equality(self, Gap, [3], [4])
        check_equality(self, Piece, [0, 5, 1, 2, Thin(1, 0)], [1, 6, 2, 1, Thin(0, 1)])
        self.assertTrue(piece)

    def test_errors(self):
        most = [(1, 2, 3)] * 13
        for rows in ([], most):
            for low, high, value in ((None, "high", None), (True, 1, True), (1.0, 1, 1.0), (0, None, None),
                                     (0, False, False), (5, "4", "4")):
                with self.assertRaises(BadNumber) as caught:
                    covered(Region(rows), low, high)
                self.assertIs(caught.exception.value, value)
        for many in (13, 14, 99):
            for low, high in ((0, 9), (9, 0)):
                with self.assertRaises(TooLarge) as caught:
                    covered(Region([(1, 2, 3)] * many), low, high)
                self.assertEqual(caught.exception.number, many)
        rows = [(k, 10 + k, 10 ** 60) for k in range(-6, 0)] + [(k, -10 - k, 10 ** 60) for k in range(6)]
        self.assertEqual(len(rows), 12)
        self.assertTrue(self.check(Region(rows), -10 ** 50, 10 ** 50))


if __name__ == "__main__":
    unittest.main()
