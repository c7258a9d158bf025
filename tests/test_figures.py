"""How many figures numbers have, which TooLarge tells, and which numbers there are ([2])."""

import unittest

from pointorstrip.figures import figures, is_number


class FiguresTest(unittest.TestCase):
    def test_short_numbers(self):
        for number in list(range(1100)) + [10 ** 18 + 1, 2 ** 64, 9 ** 99]:
            self.assertEqual(figures(number), len(str(number)))
            self.assertEqual(figures(-number), len(str(number)))

    def test_ends(self):
        for many in list(range(1, 400)) + [4300, 4301, 20000, 300000]:
            power = 10 ** many
            self.assertEqual(figures(power - 1), many)
            self.assertEqual(figures(power), many + 1)
            self.assertEqual(figures(-power), many + 1)
            self.assertEqual(figures(1 - power), many)

    def test_numbers(self):
        for value in (0, -5, 10 ** 400):
            self.assertTrue(is_number(value))
        for value in (True, False, 1.0, "1", None, (1,), 1j):
            self.assertFalse(is_number(value))


if __name__ == "__main__":
    unittest.main()
