"""Programs as texts ([63])."""

import unittest

from pointorstrip.codetexts import read_program, write_program
from pointorstrip.dividing import cheapest, divisible
from pointorstrip.errors import PlaneError
from pointorstrip.regiontexts import BadText
from pointorstrip.words import Program
from trying import generator

# For each kind of step one behind which three registers are there.
STEPS = ("right r0 7", "left r2 0", "turn r1 3", "high r2 255", "low r0 0", "most r1 10", "add r2 r0", "less r0 r2")
AHEAD = "bits 8\nr1 low r0 3\nr2 add r0 r1\n"


def some_program(chance):
    bits = chance.choice([2, 3, 8, 32, 64, chance.randint(2, 64)])
    steps = []
    for number in range(chance.choice([0, 1, 5, 20])):
        word = chance.choice(["right", "left", "turn", "high", "low", "most", "add", "less"])
        if word in ("right", "left", "turn"):
            last = chance.choice([0, bits - 1, chance.randrange(bits)])
        elif word in ("add", "less"):
            last = chance.randint(0, number)
        else:
            last = chance.choice([0, 1, 2 ** bits - 1, chance.randrange(2 ** bits)])
        steps.append((word, chance.randint(0, number), last))
    return Program(bits, steps)


class ReadTest(unittest.TestCase):
    def check(self, text, bits, *steps):
        found = read_program(text)
        self.assertIsInstance(found, Program)
        self.assertEqual((found.bits, found.steps), (bits, steps), text)

    def bad(self, text, line, column):
        with self.assertRaises(BadText) as caught:
            read_program(text)
        self.assertIsInstance(caught.exception, PlaneError)
        self.assertEqual((caught.exception.line, caught.exception.column), (line, column), text)

    def behind(self, line, column):
        """The line is bad at the column, behind lines that can stand."""
        self.bad(AHEAD + line, 4, column)
        self.bad("\n" + AHEAD + "   \n   " + line + "\nz", 6, column + 3)

    def test_each_kind_of_step(self):
        for step in STEPS:
            word, register, last = step.split()
            told = (word, int(register[1]), int(last.lstrip("r")))
            for line in (f"r3 {step}", "  r3   " + step.replace(" ", "  ") + "   "):
                self.check(AHEAD + line, 8, ("low", 0, 3), ("add", 0, 1), told)

    def test_lines(self):
        self.check("bits 2", 2)
        self.check("bits 64", 64)
        self.check("\n\n   bits   32   \n\n", 32)
        self.check("bits 8\n\n   \nr1 right r0 1\n\n r2 left r1 1\n \n", 8, ("right", 0, 1), ("left", 1, 1))
        text = "bits 8"
        steps = []
        for number in range(1, 21):
            text = text + f"\nr{number} add r{number - 1} r0"
            steps.append(("add", number - 1, 0))
            self.check(text, 8, *steps)
        self.bad(text + "\nr21 add r20 r0", 22, 1)
        self.bad(text + "\n  r21", 22, 3)
        self.bad(text + "\n  z", 22, 3)
        self.check(text + "\n   \n", 8, *steps)

    def test_no_line_at_all(self):
        for text, line in (("", 1), ("   ", 1), ("\n", 2), ("\n\n  \n  ", 4), (" \n", 2)):
            self.bad(text, line, 1)

    def test_the_first_line(self):
        for word in ("bit", "Bits", "r1", "8", "bits8", "bits,", "\tbits", "\u00df"):
            self.bad(word, 1, 1)
            self.bad(f"{word} 8", 1, 1)
            self.bad(f"\n  {word} 8\nr1", 2, 3)
        for word in ("0", "1", "65", "08", "-8", "x", "8.0", "+8", "1" + "0" * 30, "9" * 301, "\u0668", "r8"):
            self.bad(f"bits {word}", 1, 6)
            self.bad(f"  bits   {word} 5", 1, 10)
        self.bad("bits", 1, 5)
        self.bad("  bits   ", 1, 7)
        self.bad("\nbits\nr1 right r0 1", 2, 5)
        for word in ("8", "r1", "bits", "#"):
            self.bad(f"bits 8 {word}", 1, 8)
        self.behind("bits 8", 1)

    def test_the_register_that_is_made(self):
        for word in ("r0", "r1", "r2", "r4", "r03", "R3", "r", "3", "r3,", "right", "r-3", "x", "r3right"):
            self.behind(f"{word} right r0 1", 1)
            self.behind(word, 1)
        self.bad("bits 8\nr0 right r0 1", 2, 1)
        self.bad("bits 8\nr2 right r0 1", 2, 1)

    def test_the_word(self):
        for word in ("Right", "shift", "r0", "5", "rights", "and", "mod", "-", "right,"):
            self.behind(f"r3 {word} r0 1", 4)
            self.behind(f"r3  {word}", 5)

    def test_the_registers_that_are_taken(self):
        for step in STEPS:
            word, register, last = step.split()
            for bad in ("r3", "r4", "r99", "r00", "r01", "R0", "r", "0", "r-1", "x", "r0,", last if last[0] != "r" else "5"):
                self.behind(f"r3 {word} {bad} {last}", 5 + len(word))
                self.behind(f"r3 {word} {bad}", 5 + len(word))
        for word in ("add", "less"):
            for bad in ("r3", "r4", "r00", "R0", "r", "0", "1", "x", "255"):
                self.behind(f"r3 {word} r0 {bad}", 8 + len(word))
        self.bad("bits 8\nr1 add r0 r1", 2, 11)
        self.bad("bits 8\nr1 right r1 0", 2, 10)

    def test_the_numbers(self):
        for word in ("right", "left", "turn", "high", "low", "most"):
            most = 7 if word in ("right", "left", "turn") else 255
            read_program(AHEAD + f"r3 {word} r0 {most}")
            read_program(AHEAD + f"r3 {word} r0 0")
            for bad in (most + 1, 10 ** 30, "00", "01", "007", "-1", "+1", "1.0", "r0", "r1", "x", "0x1", "9" * 301,
                        "\u0661", "1_0"):
                self.behind(f"r3 {word} r0 {bad}", 8 + len(word))
        self.check(f"bits 64\nr1 high r0 {2 ** 64 - 1}\nr2 left r1 63", 64,
                   ("high", 0, 2 ** 64 - 1), ("left", 1, 63))
        self.bad(f"bits 64\nr1 high r0 {2 ** 64}", 2, 12)
        self.bad("bits 64\nr1 right r0 64", 2, 13)

    def test_words_that_lack_or_are_too_many(self):
        for step in STEPS:
            words = f"r3 {step}".split()
            for many in range(1, 4):
                text = " ".join(words[:many])
                self.behind(text, len(text) + 1)
                self.behind(text + "    ", len(text) + 1)
            text = " ".join(words)
            for word in ("0", "r0", "x", "#"):
                self.behind(f"{text} {word}", len(text) + 2)

    def test_other_blanks(self):
        self.bad("bits\t8", 1, 1)
        self.bad("bits 8\r\nr1 right r0 1", 1, 6)
        self.bad("bits 8\nr1 right r0 1\t", 2, 13)
        self.bad("\t", 1, 1)
        self.bad("bits 8\n\t", 2, 1)

    def test_no_string(self):
        for text in (None, 5, b"bits 8", ["bits 8"], True, Program(8, [])):
            self.bad(text, 0, 0)


class WriteTest(unittest.TestCase):
    def test_by_hand(self):
        self.assertEqual(write_program(Program(8, [])), "bits 8")
        self.assertEqual(
            write_program(Program(8, [("low", 0, 3), ("add", 0, 1), ("less", 2, 0), ("turn", 3, 7)])),
            "bits 8\nr1 low r0 3\nr2 add r0 r1\nr3 less r2 r0\nr4 turn r3 7")
        self.assertEqual(write_program(cheapest(32, 7, {"high": 4, "right": 1, "less": 1, "add": 1}).program(32)),
                         "bits 32\nr1 high r0 613566757\nr2 less r0 r1\nr3 right r2 1\nr4 add r3 r1\nr5 right r4 2")

    def test_read_again(self):
        chance = generator(631)
        for _ in range(300):
            program = some_program(chance)
            text = write_program(program)
            self.assertEqual(read_program(text), program)
            self.assertEqual(len(text.split("\n")), 1 + len(program.steps))
            self.assertNotIn("  ", text)
            self.assertEqual(read_program("\n " + text.replace(" ", "   ").replace("\n", "  \n\n ")), program)
        for bits, divisor in ((8, 12), (64, 10 ** 9), (16, 641)):
            program = divisible(bits, divisor)
            self.assertEqual(read_program(write_program(program)), program)


if __name__ == "__main__":
    unittest.main()
