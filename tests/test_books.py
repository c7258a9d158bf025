"""Regions by name ([56])."""

import unittest

from pointorstrip.books import BadName, Book
from pointorstrip.errors import BadNumber, BadRegion, PlaneError, TooLarge
from pointorstrip.judging import judge
from pointorstrip.papers import Empty, Point, Thin
from pointorstrip.regions import Region
from trying import box_rows, generator

# What is no name.
NONE = (None, 5, True, "", "A", "aB", "a1", "a b", "a_", "-", "abcdefghi", "\u00e4", b"a", ["a"], ("a",),
        {"a": 1}, "a\n", "\u0430")


def rows_after(edits):
    """The rows of each region by name, by going through all edits from the beginning."""
    regions = {}
    for word, name, value in edits:
        if word == "begin":
            regions[name] = list(value)
        elif word == "put":
            regions[name].append(value)
        else:
            del regions[name][value]
    return regions


def some_row(chance):
    if chance.random() < 0.3:
        return (chance.choice([0, 0, 1, -1, 2, -2]), chance.choice([0, 2, -2]), chance.choice([-3, -1, 1, 5]))
    return tuple(chance.randint(-4, 4) for _ in range(3))


class EditsTest(unittest.TestCase):
    def check(self, book, edits):
        """The book's regions, held against a plain list of the edits that were not taken back."""
        regions = rows_after(edits)
        self.assertEqual(book.names(), tuple(sorted(regions)))
        for name in regions:
            region = book.region(name)
            self.assertIsInstance(region, Region)
            self.assertEqual(region.rows, tuple(regions[name]))
            told = book.told(name)
            self.assertIs(type(told) in (Point, Thin, Empty), True)
            self.assertIs(told.shows(region), True)
            self.assertEqual(bool(told), bool(judge(region)))

    def test_drawn_orders(self):
        chance = generator(561)
        seen = {}
        for _ in range(60):
            book, edits = Book(), []
            for _ in range(60):
                regions = rows_after(edits)
                word = chance.choice(["begin", "put", "put", "put", "drop", "undo"])
                name = chance.choice(["a", "b", "abcdefgh"])
                if word == "undo":
                    for _ in range(chance.choice([1, 1, 2, 5])):
                        seen["undo", edits[-1][0] if edits else None] = True
                        self.assertIs(book.undo(), bool(edits))
                        edits = edits[:-1]
                        self.check(book, edits)
                elif word == "begin" and name not in regions:
                    rows = [some_row(chance) for _ in range(chance.randint(0, 4))]
                    self.assertIsNone(book.begin(name, rows))
                    edits.append(("begin", name, list(rows)))
                    rows.append("none")
                elif word == "put" and name in regions:
                    row = some_row(chance)
                    self.assertIsNone(book.put(name, row))
                    edits.append(("put", name, row))
                elif word == "drop" and regions.get(name):
                    number = chance.randrange(len(regions[name]))
                    self.assertIsNone(book.drop(name, number))
                    edits.append(("drop", name, number))
                self.check(book, edits)
        self.assertEqual(len(seen), 4)

    def test_undo_of_a_begin(self):
        book = Book()
        self.assertIs(book.undo(), False)
        book.begin("a", [(1, 0, 3)])
        book.begin("b", ())
        book.put("a", (0, 1, 3))
        self.assertEqual(book.names(), ("a", "b"))
        self.assertIs(book.undo(), True)
        self.assertIs(book.undo(), True)
        self.assertEqual(book.names(), ("a",))
        with self.assertRaises(BadName):
            book.region("b")
        book.begin("b", [(1, 1, 1)])
        self.assertEqual(book.region("b").rows, ((1, 1, 1),))
        for _ in range(2):
            self.assertIs(book.undo(), True)
        self.assertEqual(book.names(), ())
        self.assertIs(book.undo(), False)
        book.begin("a", [(2, 0, 3)])
        self.assertEqual(book.region("a").rows, ((2, 0, 3),))

    def test_undo_of_a_drop(self):
        rows = [(1, 0, 3), (0, 1, 3), (-1, -1, 9)]
        for number in range(3):
            book = Book()
            book.begin("a", rows)
            book.drop("a", number)
            self.assertEqual(book.region("a").rows, tuple(rows[:number] + rows[number + 1:]))
            self.assertIs(book.undo(), True)
            self.assertEqual(book.region("a").rows, tuple(rows))

    def test_what_is_returned_is_not_kept(self):
        book = Book()
        rows = [(1, 0, 3)]
        book.begin("a", rows)
        rows.append((0, 0, -1))
        self.assertEqual(book.region("a").rows, ((1, 0, 3),))
        book.region("a").rows = ()
        self.assertEqual(book.region("a").rows, ((1, 0, 3),))
        self.assertEqual(len(Book().names()), 0)


class JudgedTest(unittest.TestCase):
    def test_a_point_that_stays(self):
        book = Book()
        book.begin("a", [])
        self.assertEqual(book.judged("a"), 1)
        point = book.told("a")
        book.put("a", (1, 0, point.x))
        book.put("a", (0, 1, point.y))
        book.drop("a", 0)
        book.undo()
        self.assertEqual((book.told("a"), book.judged("a")), (point, 1))
        book.put("a", (-1, 0, -point.x - 1))
        self.assertIsInstance(book.told("a"), Empty)
        self.assertEqual(book.judged("a"), 2)
        # Taken back, it is judged a third time.
        book.undo()
        self.assertIsInstance(book.told("a"), Point)
        self.assertEqual(book.judged("a"), 3)

    def test_an_empty_that_stays(self):
        book = Book()
        book.begin("a", [(0, 1, 7), (1, 0, 0), (3, 5, 9), (-1, 0, -1)])
        self.assertEqual(book.told("a"), Empty([0, 1, 0, 1]))
        book.put("a", (2, 2, 2))
        self.assertEqual((book.told("a"), book.judged("a")), (Empty([0, 1, 0, 1, 0]), 1))
        book.drop("a", 2)
        self.assertEqual((book.told("a"), book.judged("a")), (Empty([0, 1, 1, 0]), 1))
        book.drop("a", 0)
        self.assertEqual((book.told("a"), book.judged("a")), (Empty([1, 1, 0]), 1))
        book.undo()
        self.assertEqual((book.told("a"), book.judged("a")), (Empty([0, 1, 1, 0]), 1))
        book.undo()
        self.assertEqual((book.told("a"), book.judged("a")), (Empty([0, 1, 0, 1, 0]), 1))
        book.undo()
        self.assertEqual((book.told("a"), book.judged("a")), (Empty([0, 1, 0, 1]), 1))
        # A row that is needed goes, and comes again.
        book.drop("a", 1)
        self.assertIsInstance(book.told("a"), Point)
        self.assertEqual(book.judged("a"), 2)
        book.undo()
        self.assertFalse(book.told("a"))
        self.assertEqual(book.judged("a"), 3)

    def test_a_needed_row_goes_and_it_is_empty_still(self):
        book = Book()
        book.begin("a", [(1, 0, 0), (-1, 0, -1), (0, 1, 0), (0, -1, -1)])
        first = book.told("a")
        needed = [at for at, weight in enumerate(first.weights) if weight][0]
        book.drop("a", needed)
        self.assertIsInstance(book.told("a"), Empty)
        self.assertEqual(book.judged("a"), 2)
        book.undo()
        self.assertEqual(book.judged("a"), 2)
        self.assertEqual(sum(1 for weight in book.told("a").weights if weight), 2)
        self.assertEqual(book.told("a").weights[needed], 0)
        self.assertNotEqual(book.told("a"), first)

    def test_a_thin_one(self):
        book = Book()
        book.begin("a", [(2, 4, 1), (-2, -4, -1)])
        self.assertEqual(book.told("a"), Thin(1, 2))
        book.put("a", (1, 0, 5))
        self.assertEqual((book.told("a"), book.judged("a")), (Thin(1, 2), 1))
        # With nothing in it at all a Thin does not show any more.
        book.put("a", (0, 0, -1))
        self.assertIsInstance(book.told("a"), Empty)
        self.assertEqual(book.judged("a"), 2)
        book.undo()
        self.assertEqual((book.told("a"), book.judged("a")), (Thin(1, 2), 3))
        book.drop("a", 2)
        self.assertEqual(book.judged("a"), 3)
        book.drop("a", 0)
        self.assertIsInstance(book.told("a"), Point)
        self.assertEqual(book.judged("a"), 4)

    def test_counted_from_the_last_begin(self):
        book = Book()
        book.begin("a", [(1, 0, 0)])
        book.put("a", (-1, 0, -1))
        book.undo()
        self.assertEqual(book.judged("a"), 3)
        book.undo()
        book.begin("a", [(1, 0, 0)])
        self.assertEqual(book.judged("a"), 1)
        book.begin("b", [])
        book.put("a", (-1, 0, -1))
        self.assertEqual((book.judged("a"), book.judged("b")), (2, 1))
        for _ in range(5):
            book.told("a")
            book.common(["a", "b"])
            book.region("a")
        self.assertEqual((book.judged("a"), book.judged("b")), (2, 1))

    def adapted(self, told, word, number):
        """What was told, a weight 0 put in or left out."""
        if not isinstance(told, Empty):
            return told
        weights = list(told.weights)
        if word == "in":
            weights.insert(number, 0)
        elif weights[number] == 0:
            del weights[number]
        return Empty(weights)

    def test_drawn_orders(self):
        chance = generator(562)
        judged = 0
        for _ in range(150):
            book, stack = Book(), []
            book.begin("a", [some_row(chance) for _ in range(chance.randint(0, 3))])
            times = 1
            for _ in range(25):
                rows, told = list(book.region("a").rows), book.told("a")
                word = chance.choice(["put", "put", "drop", "undo"])
                if word == "put":
                    stack.append(("put", len(rows), some_row(chance)))
                    book.put("a", stack[-1][2])
                    way, number = "in", len(rows)
                elif word == "drop" and rows:
                    number = chance.randrange(len(rows))
                    stack.append(("drop", number, rows[number]))
                    book.drop("a", number)
                    way = "out"
                elif word == "undo" and stack:
                    kind, number, _ = stack.pop()
                    book.undo()
                    way = "out" if kind == "put" else "in"
                else:
                    continue
                kept = self.adapted(told, way, number)
                if kept.shows(book.region("a")):
                    self.assertEqual(book.told("a"), kept)
                else:
                    times = times + 1
                    judged = judged + 1
                    self.assertIs(book.told("a").shows(book.region("a")), True)
                self.assertEqual(book.judged("a"), times)
        self.assertGreater(judged, 100)


class CommonTest(unittest.TestCase):
    def test_common(self):
        book = Book()
        book.begin("a", [(1, 0, 3), (-1, 0, -2)])
        book.begin("b", [(0, 1, 8), (0, -1, -8)])
        book.begin("c", [(1, 1, 9)])
        book.begin("d", [(-1, -1, -12)])
        self.assertIn(book.common(["a"]), [(x, y) for x in (2, 3) for y in range(-99, 99)])
        self.assertIn(book.common(("a", "b")), [(2, 8), (3, 8)])
        self.assertIn(book.common(["b", "a", "b"]), [(2, 8), (3, 8)])
        for names, rows in (
            (["a", "b", "c"], [(1, 0, 3), (-1, 0, -2), (0, 1, 8), (0, -1, -8), (1, 1, 9)]),
            (["d", "c"], [(-1, -1, -12), (1, 1, 9)]), (["c", "d"], [(1, 1, 9), (-1, -1, -12)]),
        ):
            found = book.common(names)
            self.assertIs(type(found) in (Thin, Empty), True)
            self.assertIs(found.shows(Region(rows)), True)
            self.assertEqual(found, judge(Region(rows)))
        self.assertIs(type(book.common([])), tuple)
        self.assertEqual(len(book.common([])), 2)

    def test_thin_together(self):
        book = Book()
        book.begin("one", [(2, 4, 1)])
        book.begin("other", [(-2, -4, -1)])
        self.assertEqual(book.common(["one", "other"]), Thin(1, 2))


class ErrorsTest(unittest.TestCase):
    def setUp(self):
        self.book = Book()
        self.book.begin("a", [(1, 0, 0), (-1, 0, -1)])
        self.book.put("a", (1, 2, 3))

    def tearDown(self):
        # Nothing is changed by what is refused.
        self.assertEqual(self.book.names(), ("a",))
        self.assertEqual(self.book.region("a").rows, ((1, 0, 0), (-1, 0, -1), (1, 2, 3)))
        self.assertEqual((self.book.told("a"), self.book.judged("a")), (Empty([1, 1, 0]), 1))
        self.assertIs(self.book.undo(), True)
        self.assertEqual(self.book.region("a").rows, ((1, 0, 0), (-1, 0, -1)))
        self.assertIs(self.book.undo(), True)
        self.assertIs(self.book.undo(), False)

    def check_name(self, name, function, *more):
        with self.assertRaises(BadName) as caught:
            function(*more)
        self.assertIsInstance(caught.exception, PlaneError)
        self.assertIs(caught.exception.name, name)

    def test_names(self):
        for name in NONE + ("a",):
            for rows in ([], None, [None], [(1, 2, 3)] * 61):
                self.check_name(name, self.book.begin, name, rows)
        for name in NONE + ("b", "aa", "z"):
            for row in ((1, 2, 3), None):
                self.check_name(name, self.book.put, name, row)
            for number in (0, None):
                self.check_name(name, self.book.drop, name, number)
            for ask in (self.book.region, self.book.told, self.book.judged):
                self.check_name(name, ask, name)
            for names in ([name], ("a", name), [name, None], ["a", name, "a"]):
                self.check_name(name, self.book.common, names)

    def test_rows(self):
        for rows, number in ((None, None), ("12", None), ([None], 0), ([(1, 2, 3), (1, 2)], 1),
                             ([(1, 2, 3)] * 99 + [(1, 2, True)], 99), ([(10 ** 300, 0, 0), [1, 2, 3]], 1)):
            with self.assertRaises(BadRegion) as caught:
                self.book.begin("b", rows)
            self.assertEqual(caught.exception.number, number)
        for row in (None, 5, [1, 2, 3], (1, 2), (1, 2, 3, 4), (1, 2, None), (1, True, 3), (1.0, 2, 3)):
            with self.assertRaises(BadRegion) as caught:
                self.book.put("a", row)
            self.assertEqual(caught.exception.number, 3)

    def test_too_large(self):
        for rows, number in (([(1, 2, 3)] * 61, 61), ([(10 ** 300, 0, 0)], 301), ([(0, 0, -10 ** 320)] * 62, 62)):
            with self.assertRaises(TooLarge) as caught:
                self.book.begin("b", rows)
            self.assertEqual(caught.exception.number, number)
        # Also where it need not be judged again.
        for row, figures in (((0, 0, 10 ** 300), 301), ((-10 ** 310, 5, 0), 311)):
            with self.assertRaises(TooLarge) as caught:
                self.book.put("a", row)
            self.assertEqual(caught.exception.number, figures)

    def test_numbers(self):
        for number in (3, -1, 10 ** 30, None, True, False, 1.0, "1"):
            with self.assertRaises(BadNumber) as caught:
                self.book.drop("a", number)
            self.assertIs(caught.exception.value, number)


class MostTest(unittest.TestCase):
    def test_most_rows(self):
        book = Book()
        book.begin("abcdefgh", [(1, 0, 0), (-1, 0, -1)])
        for many in range(3, 61):
            book.put("abcdefgh", (0, 1, many))
        with self.assertRaises(TooLarge) as caught:
            book.put("abcdefgh", (0, 1, 61))
        self.assertEqual(caught.exception.number, 61)
        self.assertEqual((len(book.region("abcdefgh").rows), book.judged("abcdefgh")), (60, 1))
        book.begin("z", box_rows(3))
        with self.assertRaises(TooLarge) as caught:
            book.common(["z", "abcdefgh"])
        self.assertEqual(caught.exception.number, 64)
        book.begin("y", [(0, 0, 10 ** 300 - 1)])
        self.assertIs(type(book.common(["y", "z"])), tuple)


if __name__ == "__main__":
    unittest.main()
