"""Scripts ([57], [58])."""

import unittest

from pointorstrip.coins import greatest_unpaid, ways_to_pay
from pointorstrip.counting import count
from pointorstrip.errors import PlaneError
from pointorstrip.hulls import Hull, hull
from pointorstrip.leasts import First, first
from pointorstrip.ranks import point_at, rank
from pointorstrip.regions import Region
from pointorstrip.regiontexts import BadText, write_region
from pointorstrip.scripts import run_script
from trying import box_rows, generator, some_rows

MADE = "region a\nregion b\nline f 3 1 7\nline g 3 2 7\n"

# For each kind of line one that can stand behind what was made above, word by word.
LINES = (
    "region c", "line h 3 - 4 5", "put a 3 x + y <= 5", "drop b 0", "undo", "rows a", "judge a",
    "count a", "first a", "least a 1 - 2", "hull a", "at b 0", "rank b 1 - 1", "near a 3 - 4",
    "agree f g - 9", "short f 20", "stairs 0 1 1", "always x <= 3", "coins 3 5 7", "divide 8 7",
)
# A row for b, so that it can be dropped from, and its points have an end.
ROWS_OF_B = "put b x <= 0\nput b x >= 0\nput b y <= 0\nput b y >= 0\n"


class ScriptTest(unittest.TestCase):
    def check(self, text, *lines):
        found = run_script(text)
        self.assertIs(type(found), list)
        self.assertEqual(found, list(lines), text)

    def bad(self, text, line, column):
        with self.assertRaises(BadText) as caught:
            run_script(text)
        self.assertIsInstance(caught.exception, PlaneError)
        self.assertEqual((caught.exception.line, caught.exception.column), (line, column), text)


class AnswersTest(ScriptTest):
    def test_lines_without_an_answer(self):
        self.check("")
        self.check("\n\n   \n")
        self.check("# a remark\n  #another <= ( \n#\n##")
        self.check("region a\nput a x <= 3\ndrop a 0\nundo\nundo\nundo")
        self.check("line f 1 2 3")
        self.check("  region   a  \n\n put a x<=3\n   # here\n judge   a ", "some")

    def test_regions(self):
        self.check("region a\nrows a")
        self.check("region a\nput a 3 x + 2 <= y - 5\nput a x >= - 7\nput a 0 >= 1\nrows a\nrows a",
                   "3 x - y <= - 7", "- x <= 7", "0 <= - 1", "3 x - y <= - 7", "- x <= 7", "0 <= - 1")
        self.check("region a\nput a x<=1\nput a x<=2\nput a x<=3\ndrop a 1\nrows a\nundo\nrows a",
                   "x <= 1", "x <= 3", "x <= 1", "x <= 2", "x <= 3")
        self.check("region a\nput a x<=1\nundo\nrows a\nundo\nregion a\nput a y<=1\nrows a", "y <= 1")

    def test_undo(self):
        self.check("undo", "nothing to undo")
        self.check("region a\nundo\nundo\nundo", "nothing to undo", "nothing to undo")
        # A line is no edit of the book.
        self.check("line a 1 2 3\nundo\nshort a 2", "nothing to undo", "shift 1 times 1 plus 1")
        # A name is free again.
        self.check("region a\nundo\nline a 1 0 1\nshort a 1", "shift 0 times 1 plus 0")

    def test_judge(self):
        self.check("region a\njudge a\nput a 2 x + 4 y <= 1\nput a 2 x + 4 y >= 1\njudge a\n"
                   "drop a 0\njudge a\nput a 0 <= - 1\njudge a", "some", "none", "some", "none")

    def test_count(self):
        self.check("region a\ncount a\nput a x <= 2\nput a x >= 0\nput a y <= 2\nput a y >= 0\ncount a\n"
                   "put a x + y <= - 1\ncount a", "without end", "9", "0")

    def test_first_least_hull(self):
        self.check("region a\nfirst a\nleast a 1 0\nleast a 0 0\nhull a",
                   "without end", "without end", "0", "without end")
        self.check("region a\nput a 7 x + 12 y <= 5\nput a 7 x + 12 y >= 5\nput a x >= 0\nfirst a\n"
                   "least a 1 - 1\nleast a - 3 0\nhull a", "(11, -6)", "17", "without end", "without end")
        self.check("region a\nput a 0 <= - 1\nfirst a\nleast a 1 0\nhull a", "none", "none", "none")
        self.check("region a\nput a x >= - 2\nput a x <= 1\nput a y >= - 3\nput a y <= 4\nfirst a\n"
                   "least a 2 - 3\nleast a - 1 - 1\nhull a",
                   "(-2, -3)", "-16", "-5", "(-2, -3) (1, -3) (1, 4) (-2, 4)")
        self.check("region a\nput a x >= 5\nput a x <= 5\nput a y >= - 5\nput a y <= - 5\nhull a", "(5, -5)")

    def test_points_in_order(self):
        self.check("region a\nput a x >= - 1\nput a x <= 1\nput a y >= 0\nput a y <= 1\nat a 0\nat a 1\nat a 5\n"
                   "at a 6\nrank a - 1 0\nrank a 1 1\nrank a 2 2\nrank a 0 - 1\nat a - 0",
                   "(-1, 0)", "(-1, 1)", "(1, 1)", "none", "0", "5", "none", "none", "(-1, 0)")

    def test_near(self):
        self.check("region a\nnear a 5 - 6\nput a x >= 3\nput a y >= 4\nnear a 0 0\nnear a - 2 5\nput a x <= 2\n"
                   "near a 0 0", "0", "7", "5", "none")

    def test_lines(self):
        self.check("line f 1 0 7\nline g 2 1 14\nline h 73 36 512\nagree f g - 100\nagree f h 0\nagree h f 0\n"
                   "agree f h 259\nagree f f 5", "always", "not at 259", "not at 259", "not at 259", "always")
        self.check("line f 1 0 7\nline g 1 1 7\nagree f g - 99", "not at -99")
        self.check("line f 1 0 7\nshort f 255\nshort f 1\nline g - 1 - 3 7\nshort g 9",
                   "shift 9 times 73 plus 36", "shift 0 times 0 plus 0", "shift 3 times -1 plus -4")
        self.check("stairs 0 31 61 92 122\nstairs 0 1 0\nstairs 5 - 3\nstairs - 1 - 1\nstairs 0 0",
                   "line 61 1 2", "crooked", "line -8 5 1", "line 0 -1 1", "line 0 0 1")

    def test_always(self):
        self.check("always x = 0 mod 2 or x = 1 mod 2\nalways x <= 3\nalways not(2 x+4 y=1)\nalways x<=3 or x>3",
                   "always", "not always", "always", "always")

    def test_coins(self):
        self.check("coins 3 5 7\ncoins 3 5 8\ncoins 5 3 15\ncoins 1 9 - 4\ncoins 4 6 10\ncoins 2 2 - 0",
                   "0 ways, last 7", "1 ways, last 7", "2 ways, last 7", "0 ways, last -1",
                   "1 ways, none last", "1 ways, none last")

    def test_divide(self):
        self.check("divide 32 7\ndivide 8 8\ndivide 8 1\ndivide 32 3\ndivide 16 28\n"
                   "divide 8 28",
                   "more 0 2 by 4908534053", "right 0 3 by 0", "right 0 0 by 0", "high 0 1 by 2863311531",
                   "ahead 1 2 by 18725", "ahead 2 0 by 37")

    def test_as_the_functions_tell(self):
        chance = generator(571)
        seen = {}
        for _ in range(150):
            rows = some_rows(chance) + (box_rows(4) if chance.random() < 0.6 else [])
            region = Region(rows)
            lines = ["region a"] + ["put a " + line for line in write_region(region).split("\n") if line]
            lines = lines + ["rows a", "judge a", "count a", "first a", "hull a"]
            many = count(region)
            told = [line for line in write_region(region).split("\n") if line]
            told.append("none" if many == 0 else "some")
            told.append("without end" if many is None else str(many))
            found = first(region)
            told.append(f"({found.x}, {found.y})" if isinstance(found, First)
                        else "without end" if found else "none")
            found = hull(region)
            told.append(" ".join(f"({x}, {y})" for x, y in found.corners) if isinstance(found, Hull)
                        else "without end" if found else "none")
            if many is not None:
                lines = lines + ["at a 3", "rank a 0 1"]
                point, number = point_at(region, 3), rank(region, 0, 1)
                told.append("none" if point is None else f"({point[0]}, {point[1]})")
                told.append("none" if number is None else str(number))
            seen[told[len(rows)], told[len(rows) + 1] == "without end"] = True
            self.check("\n".join(lines), *told)
        self.assertEqual(len(seen), 3)
        for one in range(1, 8):
            for other in range(1, 8):
                last = greatest_unpaid(one, other)
                self.check(f"coins {one} {other} 24", f"{ways_to_pay(one, other, 24)} ways, " + (
                    "none last" if last is None else f"last {last.amount}"))


class BadLinesTest(ScriptTest):
    def behind(self, line, column):
        """The line is bad at the column, behind lines that make something."""
        self.bad(MADE + ROWS_OF_B + line, 9, column)
        self.bad(MADE + "\n" + ROWS_OF_B + "  " + line + "\nregion", 10, column + 2)

    def test_all_lines_stand(self):
        self.assertEqual(len({line.split()[0] for line in LINES}), 20)
        for line in LINES:
            run_script(MADE + ROWS_OF_B + line)
            run_script(MADE + ROWS_OF_B + "   " + line.replace(" ", "    ") + "   ")

    def test_words_that_begin_no_line(self):
        for word in ("x", "regions", "Region", "rest", "+", "-", "(", "<=", "5", "!", "=", "\t", "undo,", "put#",
                     "\u00e4"):
            self.behind(word, 1)
            self.behind(f"{word} a", 1)
        self.behind("\tregion c", 1)
        self.behind("-region c", 1)
        self.behind("undo\r", 1)

    def test_words_too_many(self):
        for line in LINES:
            if line.split()[0] not in ("stairs", "always"):
                for word in ("z", "5", "#", "!", "<=", "mod", "and", "a"):
                    self.behind(f"{line} {word}", len(line) + 2)
        for word in ("a", "#", "+", "<=", "01"):
            self.behind(f"stairs 0 1 {word}", 12)
            self.behind(f"stairs 0 1 1 {word} 5", 14)
            self.behind(f"always x <= 3 {'3' if word == '+' else word}", 15)
        self.behind("undo 1", 6)
        self.behind("region c d", 10)
        self.behind("put a x <= 3 <= 4", 14)

    def test_words_that_lack(self):
        for line in LINES:
            words = line.split()
            for many in range(1, len(words)):
                short = " ".join(words[:many])
                if short in ("put a 3 x + y <= 5", "put a 3 x + y", "stairs 0 1", "undo"):
                    continue
                if words[0] == "always" and many == 4:
                    continue
                for blanks in ("", " ", "     "):
                    self.behind(short + blanks, len(short + blanks) + 1)
        self.behind("put a 3 x + y", 14)
        self.behind("put a x <= 3 +  ", 17)
        self.behind("stairs 0 1 -", 13)
        self.behind("stairs 5", 9)
        self.behind("always (x <= 3 ", 16)
        self.behind("coins 3 5 -", 12)

    def test_names(self):
        # What is no name, or is there already.
        for word in ("A", "aB", "a1", "abcdefghi", "5", "-", "<=", "a_", "\u00e4", "a", "b", "f", "g"):
            self.behind(f"region {word}", 8)
            self.behind(f"line {word} 1 2 3", 6)
            self.behind(f"line {word}", 6)
        # What is not there as a region, or as a line.
        for word in ("A", "c", "5", "-", "f", "g", "(", "abcdefghi"):
            for line in LINES:
                words = line.split()
                if len(words) > 1 and words[1] in ("a", "b"):
                    words[1] = word
                    self.behind(" ".join(words), len(words[0]) + 2)
        for word in ("A", "h", "5", "-", "a", "b"):
            self.behind(f"agree {word} g 0", 7)
            self.behind(f"agree f {word} 0", 9)
            self.behind(f"agree f   {word}", 11)
            self.behind(f"short {word} 5", 7)
        self.bad("region a\nundo\njudge a", 3, 7)
        self.bad("line a 1 2 3\nregion a", 2, 8)
        self.bad("region a\nline a 1 2 3", 2, 6)
        self.bad("line a 1 2 3\nline a 1 2 3", 2, 6)
        self.check("region abcdefgh\nregion a\nline b 1 2 3\njudge abcdefgh", "some")

    def test_numbers(self):
        most = "9" * 300
        for word in ("x", "01", "00", "1.5", "+", "+5", "(", "a", "1" + most, "\u0661", "<"):
            self.behind(f"line h {word} 1 2", 8)
            self.behind(f"line h -   {word} 1 2", 12)
            self.behind(f"line h 1 {word} 2", 10)
            self.behind(f"line h 1 - 1 {word}", 14)
            self.behind(f"drop b {word}", 8)
            self.behind(f"least a 1 {word}", 11)
            self.behind(f"rank b {word}", 8)
            self.behind(f"near a 1 - {word}", 12)
            self.behind(f"agree f g {word}", 11)
            self.behind(f"short f {word}", 9)
            self.behind(f"stairs {word} 1", 8)
            self.behind(f"stairs 1 {word}", 10)
            self.behind(f"stairs 1 2 - {word}", 14)
            self.behind(f"coins {word} 2 3", 7)
            self.behind(f"coins 1 2 {word}", 11)
            self.behind(f"divide {word} 2", 8)
            self.behind(f"divide 8 {word}", 10)
            self.behind(f"at b {word}", 6)
        self.behind("line h - - 1 1 2", 10)
        self.behind("line h --1 1 2", 9)
        self.check(f"line f {most} -{most} {most}")

    def test_numbers_too_small(self):
        for line, column in (
            ("line h 1 2 0", 12), ("line h - 1 - 2 - 3", 16), ("line h 1 2 - 0", 12), ("line h 1 2 -3", 12),
            ("drop b - 1", 8), ("drop b -  7", 8), ("at b - 1", 6), ("at b -1", 6), ("short f 0", 9),
            ("short f - 5", 9), ("short f - 0", 9), ("coins 0 5 7", 7), ("coins - 3 5 7", 7), ("coins 3 0 7", 9),
            ("coins 3 - 5 7", 9), ("coins 3 5 -7 8", 14), ("line h 1 2 0 5", 12), ("coins 0 0 0", 7),
            ("line h 1 2 - x", 14), ("drop b - ", 10), ("short f -", 10),
        ):
            self.behind(line, column)
        self.check("region a\nput a x<=1\ndrop a - 0\nrows a")

    def test_rows(self):
        for line, column in (
            ("put a x = 3", 9), ("put a x < 3", 9), ("put a x != 3", 9), ("put a x > 3", 9), ("put a <= 3", 7),
            ("put a x <= <=", 12), ("put a x mod 3", 9), ("put a 3x <= 3", 7), ("put a x y <= 3", 9),
            ("put a x <= 3 and", 14), ("put a (x <= 3)", 7), ("put a x <= 01", 12), ("put a x + + y <= 3", 11),
        ):
            self.behind(line, column)

    def test_conditions(self):
        for line, column in (
            ("always", 7), ("always  ", 9), ("always x", 9), ("always x <= 3)", 14), ("always x = 3 mod 0", 18),
            ("always x <= 3 mod 2", 15), ("always x <= 3 or or", 18), ("always )", 8), ("always !", 8),
            ("always " + "not " * 21 + "x <= 3", 92),
        ):
            self.behind(line, column)
        self.bad("always x <= 3 or\nx > 3", 1, 17)

    def test_what_functions_refuse(self):
        most = "1" + "0" * 40
        for line in (
            "drop b 4", "drop a 0", "at a 0", "rank a 0 0", "divide 1 5",
            "divide 8 0", "divide 8 256", "divide - 8 3", "divide 65 3", "coins 1001 1003 7",
            f"least a {most} 1", f"near a {most} 1", f"agree f g {most}", "short f 1" + "0" * 30,
            "stairs" + " 5" * 201, "always " + "not " * 8 + "x <= 3", "always x = 0 mod 13",
            "always " + " or ".join(["x <= 3"] * 13), f"always x <= {most}",
        ):
            self.behind(line, 1)
        self.bad("region a\nput a " + "9" * 300 + " + x <= - 1", 2, 1)
        self.bad("region a\n" + "put a x <= 3\n" * 60 + " put a x <= 3", 62, 2)
        for line in ("count a", "first a", "least a 1 1", "at a 0", "hull a"):
            self.bad("region a\n" + "put a x <= 3\n" * 41 + f"   {line}", 43, 4)
        self.bad("region a\n" + "put a x <= 3\n" * 21 + "hull a", 23, 1)
        self.bad("region a\nput a 1000000000000 x <= 3\nhull a", 3, 1)

    def test_the_first_word_counts(self):
        self.bad("region a\njudge b c\nz", 2, 7)
        self.bad("z\njudge b", 1, 1)
        self.bad("judge", 1, 6)
        self.bad("undo\n\n\n   judge   ", 4, 12)

    def test_no_string(self):
        for text in (None, 5, b"undo", ["undo"], True):
            self.bad(text, 0, 0)


if __name__ == "__main__":
    unittest.main()
