"""Conditions as texts ([54], [55])."""

import unittest

from pointorstrip.conditions import read_condition, write_condition
from pointorstrip.errors import PlaneError, TooLarge
from pointorstrip.formulas import judge_always
from pointorstrip.regiontexts import BadText
from trying import generator

X = ("row", 1, 0, 3)
Y = ("row", 0, 1, 5)
EVEN = ("rest", 1, 0, 0, 2)


def some_number(chance, size=12):
    return chance.choice([0, 1, -1, chance.randint(-size, size)])


def some_condition(chance, deep=4, least=2):
    """A condition at most so deep; its ands and ors have so many parts at least."""
    word = chance.choice(["row", "rest", "not", "and", "or"]) if deep else chance.choice(["row", "rest"])
    if word == "row":
        return (word, *[some_number(chance) for _ in range(3)])
    if word == "rest":
        return (word, *[some_number(chance) for _ in range(3)], chance.randint(1, 12))
    if word == "not":
        return (word, some_condition(chance, deep - 1, least))
    return (word, *[some_condition(chance, deep - 1, least) for _ in range(chance.randint(least, 3))])


def around(told):
    """How many nots and parentheses are around the innermost words of what is written."""
    if told[0] in ("row", "rest"):
        return 0
    return max(around(part) + (told[0] == "not" or part[0] in ("and", "or")) for part in told[1:])


class ReadTest(unittest.TestCase):
    def check(self, text, told):
        self.assertEqual(read_condition(text), told, text)

    def bad(self, text, line, column):
        with self.assertRaises(BadText) as caught:
            read_condition(text)
        self.assertIsInstance(caught.exception, PlaneError)
        self.assertEqual((caught.exception.line, caught.exception.column), (line, column), text)

    def test_signs(self):
        self.check("3 x + 5 y <= 7", ("row", 3, 5, 7))
        self.check("3 x + 5 y >= 7", ("row", -3, -5, -7))
        self.check("3 x + 5 y < 7", ("row", 3, 5, 6))
        self.check("3 x + 5 y > 7", ("row", -3, -5, -8))
        both = ("and", ("row", 3, 5, 7), ("row", -3, -5, -7))
        self.check("3 x + 5 y = 7", both)
        self.check("3 x + 5 y != 7", ("not", both))
        self.check("3 x + 5 y = 7 mod 4", ("rest", 3, 5, 7, 4))
        self.check("3 x + 5 y != 7 mod 4", ("not", ("rest", 3, 5, 7, 4)))

    def test_terms_on_both_sides(self):
        self.check("x + 2 <= 3 y - 7 - x", ("row", 2, -3, -9))
        self.check("x + 2 > 3 y - 7 - x", ("row", -2, 3, 8))
        self.check("- x < - y", ("row", -1, 1, -1))
        self.check("0 < 0", ("row", 0, 0, -1))
        self.check("5 != x", ("not", ("and", ("row", -1, 0, -5), ("row", 1, 0, 5))))
        self.check("2 + 3 x - 4 = 5 y - x + 6 - 7 y mod 1", ("rest", 4, 2, 8, 1))
        self.check("x = x mod 300", ("rest", 0, 0, 0, 300))

    def test_words_without_blanks(self):
        self.check("x+y<=3", ("row", 1, 1, 3))
        self.check("-x-2 y>=-3", ("row", 1, 2, 3))
        self.check("x<-3", ("row", 1, 0, -4))
        self.check("x>-3", ("row", -1, 0, 2))
        self.check("x=-3", ("and", ("row", 1, 0, -3), ("row", -1, 0, 3)))
        self.check("x!=3 mod 5", ("not", ("rest", 1, 0, 3, 5)))
        self.check("(x<=3)and(y<=5)", ("and", X, Y))
        self.check("not(x<=3)or not(y<=5)", ("or", ("not", X), ("not", Y)))
        self.check("((x<=3))", X)
        self.check("  x   <=    3  ", X)
        self.check("3 x<=2 y", ("row", 3, -2, 0))

    def test_and_or_not(self):
        self.check("x <= 3 and y <= 5", ("and", X, Y))
        self.check("x <= 3 or y <= 5 or x <= 3", ("or", X, Y, X))
        self.check("x <= 3 and y <= 5 and x = 0 mod 2", ("and", X, Y, EVEN))
        self.check("x <= 3 or y <= 5 and x = 0 mod 2", ("or", X, ("and", Y, EVEN)))
        self.check("x <= 3 and y <= 5 or x = 0 mod 2", ("or", ("and", X, Y), EVEN))
        self.check("(x <= 3 or y <= 5) and x = 0 mod 2", ("and", ("or", X, Y), EVEN))
        self.check("not x <= 3 and y <= 5", ("and", ("not", X), Y))
        self.check("not (x <= 3 and y <= 5)", ("not", ("and", X, Y)))
        self.check("not not x <= 3", ("not", ("not", X)))
        self.check("(x <= 3 and y <= 5) and x <= 3", ("and", ("and", X, Y), X))
        self.check("x <= 3 or (y <= 5 or x <= 3)", ("or", X, ("or", Y, X)))
        self.check("x <= 3 or (y <= 5 and x <= 3)", ("or", X, ("and", Y, X)))
        self.check("x = 3 and y != 5", (
            "and", ("and", ("row", 1, 0, 3), ("row", -1, 0, -3)),
            ("not", ("and", ("row", 0, 1, 5), ("row", 0, -1, -5)))))
        self.check("not x = 3", ("not", ("and", ("row", 1, 0, 3), ("row", -1, 0, -3))))

    def test_lines(self):
        self.check("\n\n x <= 3\n", X)
        self.check("x\n<=\n3\nand\n\n  y <= 5", ("and", X, Y))
        self.check("not\n(x <= 3\n)", ("not", X))
        self.check("x = 0\nmod 2", EVEN)

    def test_figures(self):
        most = "9" * 300
        self.check(f"{most} x <= {most}", ("row", int(most), 0, int(most)))
        self.check(f"x = {most} mod {most}", ("rest", 1, 0, int(most), int(most)))
        self.check(f"x > {most}", ("row", -1, 0, -10 ** 300))
        self.bad(f"1{most} x <= 0", 1, 1)
        self.bad(f"x <= 1{most}", 1, 6)
        self.bad(f"x = 0 mod 1{most}", 1, 11)
        for figures in ("00", "01", "007", "1_000", "1.5", "0x1", "1e3", "\u0661", "\u00b2"):
            self.bad(f"x <= {figures}", 1, 6)
            self.bad(f"x = 0 mod {figures}", 1, 11)
            self.bad(f"x <= 3 and\n {figures} x > 1", 2, 2)

    def test_twenty_around(self):
        for many in (1, 19, 20):
            nots = "not " * many
            told = X
            for _ in range(many):
                told = ("not", told)
            self.check(nots + "x <= 3", told)
            self.check("(" * many + "x <= 3" + ")" * many, X)
            self.check("(" * many + "x <= 3" + ")" * many + " and y <= 5", ("and", X, Y))
        self.check("not (" * 10 + "x <= 3 and y <= 5" + ")" * 10,
                   read_condition("not " * 10 + "(x <= 3 and y <= 5)"))
        self.bad("not " * 21 + "x <= 3", 1, 85)
        self.bad("not " * 22 + "x <= 3", 1, 85)
        self.bad("(" * 21 + "x <= 3" + ")" * 21, 1, 22)
        self.bad("(" * 30, 1, 22)
        self.bad("not " * 20 + "(x <= 3)", 1, 82)
        self.bad("(" * 20 + "not x <= 3" + ")" * 20, 1, 25)
        self.bad("not (" * 10 + "not\n x <= 3" + ")" * 10, 2, 2)
        self.bad("not " * 21, 1, 85)
        # What is behind a part has no more around it.
        self.check("not " * 20 + "x <= 3 and " + "not " * 20 + "y <= 5",
                   ("and", read_condition("not " * 20 + "x <= 3"), read_condition("not " * 20 + "y <= 5")))

    def test_words_that_cannot_stand(self):
        # Where a part begins.
        for word in ("and", "or", "mod", ")", "+", "<=", ">=", "!=", "<", ">", "=", "!", "z", "X", "3x",
                     "x3", "nots", "NOT", "*", "#", "\t", "x,", "[", "!x", "01"):
            self.bad(word, 1, 1)
            self.bad(f"  {word} x <= 3", 1, 3)
            self.bad(f"not {word}", 1, 5)
            self.bad(f"({word}", 1, 2)
            self.bad(f"x <= 3 and {word}", 1, 12)
            self.bad(f"x <= 3 or\n\n {word} <= 3", 3, 2)
        # Where a term begins.
        for word in ("and", "or", "not", "mod", "(", ")", "+", "<=", "!", "=", "z", "3x", "01"):
            self.bad(f"x <= {word}", 1, 6)
            self.bad(f"x + {word} <= 3", 1, 5)
            self.bad(f"x <= y - {word}", 1, 10)
            self.bad(f"x <= -{word}", 1, 7)
        self.bad("- - x <= 3", 1, 3)
        self.bad("--x<=3", 1, 2)
        # Behind figures, and behind a letter, on the left side.
        for word in ("and", "or", "not", "mod", "(", ")", "!", "3", "z", "0"):
            self.bad(f"3 {word}", 1, 3)
            self.bad(f"x {word}", 1, 3)
            self.bad(f"3 y {word}", 1, 5)
        self.bad("x y <= 3", 1, 3)
        # Behind the right side.
        for word in ("not", "(", ")", "!", "<=", ">=", "!=", "<", ">", "=", "z", "#", "3"):
            self.bad(f"x <= 3 {word}", 1, 8)
            self.bad(f"x = 3 {word}", 1, 7)
            self.bad(f"x = 3 mod 5 {word}", 1, 13)
            self.bad(f"(x <= 3) {word}", 1, 10)
            self.bad(f"x <= 3\n{word}", 2, 1)
        # Within parentheses.
        for word in ("not", "(", "!", "=", "z", "mod", "3"):
            self.bad(f"(x <= 3 {word}", 1, 9)
        self.bad("(x <= 3 mod 5)", 1, 9)
        self.bad("(x <= 3))", 1, 9)
        self.bad("()", 1, 2)

    def test_mod(self):
        for sign in ("<=", ">=", "<", ">"):
            self.bad(f"x {sign} 3 mod 5", 1, 6 + len(sign))
        self.bad("x = 3 mod 0", 1, 11)
        self.bad("x != 3 mod 0", 1, 12)
        for word in ("-", "x", "mod", "(", ")", "=", "not", "5x"):
            self.bad(f"x = 3 mod {word} 5", 1, 11)
        self.bad("x = 3 mod 5 x", 1, 13)
        self.bad("x = 3 mod 5 + 1", 1, 13)
        self.bad("x = 3 mod 5 mod 5", 1, 13)

    def test_signs_side_by_side(self):
        for text, column in (
            ("x =< 3", 4), ("x == 3", 4), ("x <> 3", 4), ("x <== 3", 5), ("x !== 3", 5), ("x ! = 3", 3),
            ("x!3", 2), ("x !3", 3), ("!(x <= 3)", 1), ("x! <= 3", 2), ("x >> 3", 4), ("x => 3", 4),
            ("x!<=3", 2), ("x <= 3!", 7), ("x <= 3 !", 8),
        ):
            self.bad(text, 1, column)
            self.bad("y <= 5 and\n" + text, 2, column)

    def test_words_that_lack(self):
        for text in ("", " ", "   ", "x", "x   ", "3 x", "-", "- 3", "x +", "x <=", "x >= ", "x =", "x !=  ",
                     "x < -", "x <= 3 +", "x = 3 mod", "x = 3 mod  ", "not", "not  ", "(", "(x <= 3", "(x <= 3  ",
                     "x <= 3 and", "x <= 3 or   ", "x <= 3 and (y <= 5", "((x <= 3)", "x <= 3 and not"):
            self.bad(text, 1, len(text) + 1)
            self.bad("\n" + text, 2, len(text) + 1)
            self.bad(text + "\n", 2, 1)
            self.bad(text + "\n\n  ", 3, 3)
        self.bad("x <=\n  \n\n   ", 4, 4)

    def test_the_first_word_counts(self):
        self.bad("x <= z and )", 1, 6)
        self.bad("x <= 3 and\ny <= ! )", 2, 6)
        self.bad(") !", 1, 1)

    def test_other_blanks(self):
        self.bad("x\t<= 1", 1, 1)
        self.bad("x <=\t1", 1, 5)
        self.bad("x <= 1\t", 1, 6)
        self.bad("x <= 1\r\nand y <= 2", 1, 6)
        self.bad("x <= 1 \r", 1, 8)
        self.bad("x\u00a0<= 1", 1, 1)
        self.bad("x <= 1\x0band y <= 2", 1, 6)

    def test_no_string(self):
        for text in (None, 5, b"x <= 1", ["x <= 1"], ("row", 1, 2, 3), True):
            self.bad(text, 0, 0)


class WriteTest(unittest.TestCase):
    def check(self, told, text):
        self.assertEqual(write_condition(told), text)

    def test_rows_and_rests(self):
        for told, text in (
            (("row", 3, 5, 7), "3 x + 5 y <= 7"), (("row", -1, -1, -1), "- x - y <= - 1"),
            (("row", 0, 0, 0), "0 <= 0"), (("row", 0, -2, 5), "- 2 y <= 5"), (("row", 1, 0, -10), "x <= - 10"),
            (("rest", 3, 5, 7, 4), "3 x + 5 y = 7 mod 4"), (("rest", 0, 0, 0, 1), "0 = 0 mod 1"),
            (("rest", -1, 1, -1, 12), "- x + y = - 1 mod 12"), (("rest", 0, -1, 1, 10), "- y = 1 mod 10"),
            (("rest", 1, -20, -30, 2), "x - 20 y = - 30 mod 2"), (("rest", -4, 0, 0, 7), "- 4 x = 0 mod 7"),
        ):
            self.check(told, text)
            self.assertEqual(read_condition(text), told)

    def test_parentheses(self):
        both, some = ("and", X, Y), ("or", X, Y)
        self.check(both, "x <= 3 and y <= 5")
        self.check(some, "x <= 3 or y <= 5")
        self.check(("not", X), "not x <= 3")
        self.check(("not", EVEN), "not x = 0 mod 2")
        self.check(("not", ("not", X)), "not not x <= 3")
        self.check(("not", both), "not (x <= 3 and y <= 5)")
        self.check(("not", some), "not (x <= 3 or y <= 5)")
        self.check(("and", both, X), "(x <= 3 and y <= 5) and x <= 3")
        self.check(("and", X, some), "x <= 3 and (x <= 3 or y <= 5)")
        self.check(("or", both, X), "x <= 3 and y <= 5 or x <= 3")
        self.check(("or", X, some), "x <= 3 or (x <= 3 or y <= 5)")
        self.check(("and", ("not", X), ("not", both)), "not x <= 3 and not (x <= 3 and y <= 5)")
        self.check(("or", ("not", some), X), "not (x <= 3 or y <= 5) or x <= 3")
        self.check(("and", X, Y, EVEN), "x <= 3 and y <= 5 and x = 0 mod 2")
        self.check(("not", ("or", both, ("and", some, X))),
                   "not (x <= 3 and y <= 5 or (x <= 3 or y <= 5) and x <= 3)")

    def test_parts_of_one_part(self):
        both, some = ("and", X, Y), ("or", X, Y)
        for word in ("and", "or"):
            self.check((word, X), "x <= 3")
            self.check(("not", (word, X)), "not x <= 3")
            self.check(("not", (word, both)), "not (x <= 3 and y <= 5)")
            self.check((word, ("and", ("or", some))), "x <= 3 or y <= 5")
            self.check(("and", (word, X), Y), "x <= 3 and y <= 5")
            # It stands as its part would in its place.
            self.check(("and", (word, some), Y), "(x <= 3 or y <= 5) and y <= 5")
            self.check(("and", (word, both), Y), "(x <= 3 and y <= 5) and y <= 5")
            self.check(("or", (word, both), Y), "x <= 3 and y <= 5 or y <= 5")
            self.check(("or", (word, some), Y), "(x <= 3 or y <= 5) or y <= 5")
            self.check(("or", Y, (word, ("not", some))), "y <= 5 or not (x <= 3 or y <= 5)")

    def test_read_again(self):
        chance = generator(551)
        deepest = 0
        for _ in range(1500):
            told = some_condition(chance, chance.choice([1, 2, 4, 6]))
            text = write_condition(told)
            self.assertNotIn("  ", text)
            self.assertNotIn("( ", text)
            self.assertNotIn(" )", text)
            self.assertEqual(text, text.strip())
            if around(told) <= 20:
                self.assertEqual(read_condition(text), told)
                deepest = max(deepest, around(told))
                self.assertEqual(read_condition(text.replace(" ", "\n")), told)
                close = text.replace(" ", "  ").replace("(", "( ").replace(")", " )")
                self.assertEqual(read_condition(close), told)
        self.assertGreater(deepest, 4)

    def test_parts_of_one_part_mean_the_same(self):
        chance = generator(552)
        for _ in range(300):
            told = some_condition(chance, 3, 1)
            again = read_condition(write_condition(told))
            self.assertEqual(write_condition(again), write_condition(told))
            both = ("and", ("or", ("not", told), again), ("or", told, ("not", again)))
            try:
                self.assertTrue(judge_always(both))
            except PlaneError:
                pass

    def test_nested_deep(self):
        told = X
        for many in range(1, 60):
            told = ("not", told)
            self.check(told, "not " * many + "x <= 3")
            if many <= 20:
                self.assertEqual(read_condition(write_condition(told)), told)

    def test_too_large(self):
        most = 10 ** 300 - 1
        for told in (("row", most, -most, most), ("rest", -most, most, -most, most)):
            self.assertEqual(read_condition(write_condition(told)), told)
        for told, figures in (
            (("row", most + 1, 0, 0), 301), (("row", 0, -most - 1, 0), 301), (("row", 0, 0, 10 ** 5000), 5001),
            (("rest", 1, 2, 3, 10 ** 300), 301), (("rest", 10 ** 302, 0, 0, 1), 303),
            (("and", X, ("not", ("or", Y, ("row", 1, -10 ** 310, 10 ** 305)))), 311),
        ):
            with self.assertRaises(TooLarge) as caught:
                write_condition(told)
            self.assertEqual(caught.exception.number, figures)


if __name__ == "__main__":
    unittest.main()
