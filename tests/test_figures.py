"""How many figures numbers have, which TooLarge tells, and which numbers there are ([2])."""

import unittest

from pointorstrip.figures import figures, is_between, is_number, is_pair, power


class FiguresTest(unittest.TestCase):
    def test_short_numbers(self):
        for number in list(range(1100)) + [10 ** 18 + 1, 2 ** 64, 9 ** 99]:
            self.assertEqual(figures(number), len(str(number)))
            self.assertEqual(figures(-number), len(str(number)))

    def test_ends(self):
        for many in list(range(1, 400)) + [4300, 4301, 20000, 300000]:
            power = 10 ** many
            self.assertEqual(figures(power - 1), many)
            self.assertEqual(figures(power), many + 1)
            self.assertEqual(figures(-power), many + 1)
            self.assertEqual(figures(1 - power), many)

    def test_numbers(self):
        for value in (0, -5, 10 ** 400):
            self.assertTrue(is_number(value))
        for value in (True, False, 1.0, "1", None, (1,), 1j):
            self.assertFalse(is_number(value))

    def test_bounds(self):
        for value in (3, 4, 5):
            self.assertTrue(is_between(3, 5, value))
        for value in (2, 6, None, True, 4.0, "4"):
            self.assertFalse(is_between(0 if value is True else 3, 5, value))

    def test_pairs(self):
        self.assertTrue(is_pair((1, -2)))
        for value in ([1, 2], (1,), (1, 2, 3), (1, None), (True, 2), (1, 2.0), None, "12", ()):
            self.assertFalse(is_pair(value))

    def test_power(self):
        for base in (0, 1, 2, 7, 10, 100):
            for exponent in range(70):
                self.assertEqual(power(base, exponent), base ** exponent)


if __name__ == "__main__":
    unittest.main()
