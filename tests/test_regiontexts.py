"""Regions as texts ([32])."""

import unittest

from pointorstrip.errors import PlaneError, TooLarge
from pointorstrip.regions import Region
from pointorstrip.regiontexts import BadText, read_region, write_region
from trying import generator


class ReadTest(unittest.TestCase):
    def check(self, text, *rows):
        found = read_region(text)
        self.assertIsInstance(found, Region)
        self.assertEqual(found.rows, rows, text)

    def test_signs(self):
        self.check("x <= 5", (1, 0, 5))
        self.check("x >= 5", (-1, 0, -5))
        self.check("x = 5", (1, 0, 5), (-1, 0, -5))
        self.check("0 <= 0", (0, 0, 0))
        self.check("0 >= 1", (0, 0, -1))
        self.check("- y <= - 7", (0, -1, -7))
        self.check("3 x - 2 y >= - 7", (-3, 2, 7))

    def test_terms(self):
        self.check("3 x + 5 y <= 9", (3, 5, 9))
        self.check("3 x + 5 <= y", (3, -1, -5))
        self.check("1 <= x", (-1, 0, -1))
        self.check("x + x + 2 x <= 1 + 2 + 3", (4, 0, 6))
        self.check("x + y - x <= y", (0, 0, 0))
        self.check("2 + 3 x - 4 = 5 y - x + 6 - 7 y", (4, 2, 8), (-4, -2, -8))
        self.check("0 x + 1 y <= 0 + 0 y", (0, 1, 0))
        self.check("- 5 <= - x", (1, 0, 5))
        self.check("- 3 x - 4 y - 5 >= - 6 x - 7 y - 8", (-3, -3, 3))

    def test_lines(self):
        self.check("")
        self.check("\n\n   \n")
        self.check("x <= 1\ny = 2\nx >= 3", (1, 0, 1), (0, 1, 2), (0, -1, -2), (-1, 0, -3))
        self.check("\n  x   <=    1  \n\n   \ny <= 2\n", (1, 0, 1), (0, 1, 2))
        self.check("   x <= 1", (1, 0, 1))
        self.check("x <= 1   ", (1, 0, 1))
        self.check("x     <=     1     +     y", (1, -1, 1))

    def test_figures(self):
        most = "9" * 300
        self.check(f"{most} x + {most} y <= {most}", (int(most), int(most), int(most)))
        self.check(f"{most} x + x <= {most} + {most}", (10 ** 300, 0, 2 * int(most)))
        self.bad("1" + "0" * 300 + " <= 0", 1, 1)
        self.bad("x <= 1" + "0" * 300, 1, 6)
        self.bad("x <= 2 + 1" + "0" * 300, 1, 10)
        for figures in ("00", "01", "007", "0" * 300, "1_000", "+1", "-1", "1.5", "0x1", "1e3",
                        "\u0661", "\u00b2", "1\u0661"):
            self.bad(f"x <= {figures}", 1, 6)
            self.bad(f"y <= 3\n{figures} x <= 1", 2, 1)

    def bad(self, text, line, column):
        with self.assertRaises(BadText) as caught:
            read_region(text)
        self.assertIsInstance(caught.exception, PlaneError)
        told = (caught.exception.line, caught.exception.column)
        self.assertEqual(told, (line, column), text)

    def test_words_that_cannot_stand(self):
        # At the beginning of a side.
        for word in ("+", "<=", ">=", "=", "z", "X", "<", ">", "==", "(", "3x", "x3", "-x", "--",
                     "x<=5", "*", "#", "\t", "x,", "\u00d7"):
            self.bad(f"{word} x <= 1", 1, 1)
            self.bad(f"   {word}", 1, 4)
            self.bad(f"x <= {word} 1", 1, 6)
            self.bad(f"x <= 1\n y >=   {word}", 2, 9)
        # Behind a sign.
        for word in ("+", "-", "<=", "=", "z", "3x", "01"):
            self.bad(f"- {word} x <= 1", 1, 3)
            self.bad(f"x + {word} 1 <= 1", 1, 5)
            self.bad(f"x <= y -   {word}", 1, 12)
        # Behind figures.
        for word in ("3", "0", "z", "xy", "*", "x5", "<", "=="):
            self.bad(f"3 {word} <= 1", 1, 3)
            self.bad(f"x <= 3 {word} x", 1, 8)
        # Behind a letter.
        for word in ("3", "x", "y", "z", "<", "*"):
            self.bad(f"3 x {word} <= 1", 1, 5)
            self.bad(f"x <= y {word}", 1, 8)
        # Behind the right side.
        for word in ("<=", ">=", "="):
            self.bad(f"x <= 3 {word} 4", 1, 8)
            self.bad(f"x = 3 x {word} 4", 1, 9)

    def test_words_that_lack(self):
        for text, column in (
            ("x", 2), ("x   ", 2), ("  3 x", 6), ("-", 2), ("- 3", 4), ("x +", 4), ("x + 12", 7),
            ("x <=", 5), ("x >= ", 5), ("x =", 4), ("x <= -", 7), ("x <= 3 +", 9), ("x <= 3 x - ", 11),
            ("12345", 6),
        ):
            self.bad(text, 1, column)
            self.bad("\n x <= 1\n  \n" + text + "\ny", 4, column)

    def test_the_first_word_counts(self):
        self.bad("x <= 1\ny <= z w\nq", 2, 6)
        self.bad("x <= 1\n\nq\nx", 3, 1)
        self.bad("x x\nq", 1, 3)
        self.bad("x\nq", 1, 2)

    def test_other_blanks(self):
        self.bad("x\t<= 1", 1, 1)
        self.bad("x <=\t1", 1, 3)
        self.bad("\t", 1, 1)
        self.bad("x <= 1\t", 1, 6)
        self.bad("x <= 1\r\ny <= 2", 1, 6)
        self.bad("x <= 1 \r\ny <= 2", 1, 8)
        self.bad("x\u00a0<= 1", 1, 1)
        self.bad("x <= 1\x0by <= 2", 1, 6)
        self.bad("x <= 1\u2028y <= 2", 1, 6)

    def test_no_string(self):
        for text in (None, 5, b"x <= 1", ["x <= 1"], ("x <= 1",), True, Region([])):
            self.bad(text, 0, 0)


class WriteTest(unittest.TestCase):
    def test_by_hand(self):
        for row, text in (
            ((3, 5, 7), "3 x + 5 y <= 7"), ((1, 1, 1), "x + y <= 1"), ((-1, -1, -1), "- x - y <= - 1"),
            ((0, 0, 0), "0 <= 0"), ((0, 0, -1), "0 <= - 1"), ((0, 1, 0), "y <= 0"),
            ((0, -1, 5), "- y <= 5"), ((0, 2, 5), "2 y <= 5"), ((0, -2, 5), "- 2 y <= 5"),
            ((1, 0, -5), "x <= - 5"), ((-3, 0, 5), "- 3 x <= 5"), ((3, -1, 5), "3 x - y <= 5"),
            ((-1, 4, 10), "- x + 4 y <= 10"), ((-10, 1, 0), "- 10 x + y <= 0"),
            ((1, -11, 0), "x - 11 y <= 0"),
        ):
            self.assertEqual(write_region(Region([row])), text)
        self.assertEqual(write_region(Region([])), "")
        self.assertEqual(write_region(Region([(1, 0, 2), (0, 0, 3), (0, -1, -4)])),
                         "x <= 2\n0 <= 3\n- y <= - 4")

    def test_read_again(self):
        chance = generator(321)
        for _ in range(300):
            size = 10 ** chance.choice([1, 1, 5, 299])
            numbers = (0, 1, -1, 2, -2, 10, size - 1, 1 - size)
            rows = [tuple(chance.choice([chance.choice(numbers), chance.randint(-size, size)])
                          for _ in range(3)) for _ in range(chance.randint(0, 6))]
            region = Region(rows)
            text = write_region(region)
            self.assertEqual(len(text.split("\n")), max(1, len(rows)))
            self.assertNotIn("  ", text)
            self.assertEqual(read_region(text), region)
            self.assertEqual(write_region(read_region(text)), text)

    def test_too_large(self):
        most = 10 ** 300 - 1
        region = Region([(most, -most, most), (-most, most, -most)])
        self.assertEqual(read_region(write_region(region)), region)
        for rows, figures in (
            ([(1, 2, 3), (10 ** 300, 0, 0)], 301), ([(0, -10 ** 300, 0)], 301),
            ([(0, 10 ** 300, 10 ** 310)], 311), ([(0, 0, -10 ** 5000)], 5001),
        ):
            with self.assertRaises(TooLarge) as caught:
                write_region(Region(rows))
            self.assertEqual(caught.exception.number, figures)
        self.assertEqual(len(write_region(Region([(1, 2, 3)] * 100)).split("\n")), 100)

    def test_other_ways_to_write_a_row(self):
        chance = generator(322)
        for _ in range(200):
            left, right = [], []
            sums = [0, 0, 0]
            for side, sign in ((left, 1), (right, -1)):
                for at in range(chance.randint(1, 5)):
                    number, kind = chance.randint(0, 12), chance.choice([0, 1, 2])
                    minus = chance.random() < 0.5
                    if at or minus:
                        side.append("-" if minus else "+")
                    if kind == 2 or number != 1 or chance.random() < 0.5:
                        side.append(str(number))
                    if kind < 2:
                        side.append("xy"[kind])
                    sums[kind] += sign * (-number if minus else number)
            blanks = [" " * chance.randint(1, 3) for _ in range(30)]
            words = left + ["<="] + right
            text = "".join(word + blank for word, blank in zip(words, blanks))
            self.assertEqual(read_region(text).rows, ((sums[0], sums[1], -sums[2]),), text)


if __name__ == "__main__":
    unittest.main()
