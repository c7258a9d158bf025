"""The examples of the document, word for word ([1])."""

import doctest
import unittest

SECTION_1 = """
>>> from pointorstrip.judging import judge
>>> from pointorstrip.leasts import first
>>> from pointorstrip.papers import Thin
>>> from pointorstrip.regions import Region
>>> found = first(Region([(7, 12, 5), (-7, -12, -5), (-1, 0, 0)]))
>>> found.x, found.y
(11, -6)
>>> line = Region([(2, 4, 1), (-2, -4, -1)])
>>> bool(judge(line)), Thin(1, 2).shows(line), Thin(2, 4).shows(line), Thin(1, 0).shows(line)
(False, True, False, False)
"""

SECTION_13 = """
>>> from pointorstrip.rounded import Line
>>> from pointorstrip.shortcuts import shortcut
>>> from pointorstrip.stairs import stairs
>>> found = shortcut(Line(1, 0, 7), 255)
>>> found.shift, found.multiplier, found.offset
(9, 73, 36)
>>> told = stairs([0, 31, 61, 92, 122])
>>> told.line.a, told.line.b, told.line.m
(61, 1, 2)
"""


class ExampleTest(unittest.TestCase):
    def check(self, text, many):
        test = doctest.DocTestParser().get_doctest(text, {}, "example", None, 0)
        self.assertEqual(len(test.examples), many)
        told = []
        runner = doctest.DocTestRunner(verbose=False)
        runner.run(test, out=told.append)
        self.assertEqual(runner.failures, 0, "".join(told))

    def test_section_1(self):
        self.check(SECTION_1, 8)

    def test_section_13(self):
        self.check(SECTION_13, 7)


if __name__ == "__main__":
    unittest.main()
