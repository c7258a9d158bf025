"""Programs over words ([25])."""

import unittest

from pointorstrip.errors import BadNumber, PlaneError
from pointorstrip.words import BadStep, Program
from trying import check_equality, generator


def run_by_hand(bits, steps, x):
    """The answer of a program, worked out with the words as strings of bits where that is told."""
    registers = [x]
    for word, r, n in steps:
        value = registers[r]
        digits = format(value, "b").zfill(bits)
        if word == "right":
            made = int(("0" * n + digits)[:bits], 2)
        elif word == "left":
            made = int((digits + "0" * n)[-bits:], 2)
        elif word == "turn":
            made = int(digits[bits - n:] + digits[:bits - n], 2)
        elif word == "high":
            made = value * n // 2 ** bits
        elif word == "low":
            made = value * n % 2 ** bits
        elif word == "most":
            made = int(value <= n)
        elif word == "add":
            made = (value + registers[n]) % 2 ** bits
        else:
            made = (value - registers[n]) % 2 ** bits
        registers.append(made)
    return registers[-1]


def some_step(chance, bits, number):
    word = chance.choice(["right", "left", "turn", "high", "low", "most", "add", "less"])
    if word in ("right", "left", "turn"):
        last = chance.choice([0, 1, bits - 1, chance.randrange(bits)])
    elif word in ("high", "low", "most"):
        last = chance.choice([0, 1, 2 ** bits - 1, chance.randrange(2 ** bits)])
    else:
        last = chance.randint(0, number)
    return (word, chance.randint(0, number), last)


class ProgramTest(unittest.TestCase):
    def check(self, bits, step, x, answer):
        self.assertEqual(Program(bits, [step]).run(x), answer, (bits, step, x))

    def test_each_step(self):
        for n, right, left, turn in (
            (0, 0b10010110, 0b10010110, 0b10010110), (1, 0b01001011, 0b00101100, 0b01001011),
            (2, 0b00100101, 0b01011000, 0b10100101), (7, 0b00000001, 0b00000000, 0b00101101),
        ):
            self.check(8, ("right", 0, n), 0b10010110, right)
            self.check(8, ("left", 0, n), 0b10010110, left)
            self.check(8, ("turn", 0, n), 0b10010110, turn)
        for n, high, low, most in (
            (0, 0, 0, 0), (1, 0, 200, 0), (2, 1, 144, 0), (199, 155, 120, 0), (200, 156, 64, 1),
            (255, 199, 56, 1),
        ):
            self.check(8, ("high", 0, n), 200, high)
            self.check(8, ("low", 0, n), 200, low)
            self.check(8, ("most", 0, n), 200, most)
        self.check(8, ("most", 0, 0), 0, 1)
        self.check(8, ("add", 0, 0), 127, 254)
        self.check(8, ("add", 0, 0), 128, 0)
        self.check(8, ("add", 0, 0), 255, 254)
        self.check(8, ("less", 0, 0), 255, 0)
        steps = [("right", 0, 1), ("less", 1, 0), ("less", 0, 1), ("add", 2, 3)]
        self.assertEqual([Program(8, steps[:many]).run(9) for many in range(5)], [9, 4, 251, 5, 0])
        self.check(64, ("high", 0, 2 ** 64 - 1), 2 ** 64 - 1, 2 ** 64 - 2)
        self.check(64, ("low", 0, 2 ** 64 - 1), 2 ** 64 - 1, 1)
        self.check(64, ("turn", 0, 63), 2 ** 63, 1)
        self.check(64, ("turn", 0, 63), 1, 2)
        self.check(2, ("turn", 0, 1), 2, 1)

    def test_against_bits(self):
        chance = generator(251)
        for _ in range(300):
            bits = chance.choice([2, 3, 8, 17, 64])
            steps = [some_step(chance, bits, number) for number in range(chance.randint(0, 20))]
            program = Program(bits, steps)
            for x in [0, 1, 2 ** bits - 1] + [chance.randrange(2 ** bits) for _ in range(5)]:
                self.assertEqual(program.run(x), run_by_hand(bits, steps, x), (bits, steps, x))

    def test_without_steps(self):
        for steps in ([], ()):
            program = Program(5, steps)
            self.assertEqual(program.steps, ())
            self.assertEqual(program.run(31), 31)
            self.assertEqual(program.price({"right": 5}), 0)

    def test_many_steps(self):
        step = ("add", 0, 0)
        self.assertEqual(len(Program(8, [step] * 20).steps), 20)
        for many in (21, 22, 500):
            with self.assertRaises(BadStep) as caught:
                Program(8, [step] * many)
            self.assertIsNone(caught.exception.number)
            # Too many come ahead of one that is none.
            with self.assertRaises(BadStep) as caught:
                Program(8, [None] + [step] * (many - 1))
            self.assertIsNone(caught.exception.number)
        steps = [("add", at, at) for at in range(20)]
        self.assertEqual(Program(30, steps).run(1), 2 ** 20)

    def test_bits(self):
        for bits in (1, 0, -8, 65, 10 ** 30, None, True, 8.0, "8"):
            for steps in ([], None, [None]):
                with self.assertRaises(BadNumber) as caught:
                    Program(bits, steps)
                self.assertIs(caught.exception.value, bits)
        for bits in (2, 64):
            self.assertEqual(Program(bits, []).bits, bits)

    def test_rows_that_are_none(self):
        for steps in (None, 5, "right", {}, {("add", 0, 0)}, True):
            with self.assertRaises(BadStep) as caught:
                Program(8, steps)
            self.assertIsNone(caught.exception.number)

    def check_bad(self, step, bits=8):
        fine = ("add", 0, 0)
        for ahead in (0, 2, 19):
            with self.assertRaises(BadStep) as caught:
                Program(bits, [fine] * ahead + [step])
            self.assertEqual(caught.exception.number, ahead, step)
            self.assertIsInstance(caught.exception, PlaneError)
        with self.assertRaises(BadStep) as caught:
            Program(bits, [fine, step, fine, step])
        self.assertEqual(caught.exception.number, 1)

    def test_steps_that_are_none(self):
        for word in ("right", "left", "turn"):
            for last in (-1, 8, 9, None, True, 1.0, "1"):
                self.check_bad((word, 0, last))
            self.check_bad((word, 0, 2), 2)
        for word in ("high", "low", "most"):
            for last in (-1, 256, 10 ** 30, None, False, 1.0):
                self.check_bad((word, 0, last))
        for word in ("add", "less"):
            for last in (-1, 20, None, True, 0.0):
                self.check_bad((word, 0, last))
        for word in ("Right", "", "mul", "righ", None, 1, True, ("right",), ["right"], {}):
            self.check_bad((word, 0, 0))
        for word in ("right", "left", "turn", "high", "low", "most", "add", "less"):
            for number in (-1, 20, None, False, True, 0.0, "0"):
                self.check_bad((word, number, 0))
            for step in ((word,), (word, 0), (word, 0, 0, 0), [word, 0, 0], word):
                self.check_bad(step)
        for step in (None, (), 5, "add", "abc", [], {"add": 0}, ("add", 0, 0, 0)):
            self.check_bad(step)

    def test_registers_not_there_yet(self):
        for word in ("right", "high", "add", "less", "turn"):
            for number in range(4):
                steps = [("add", 0, 0)] * number
                Program(8, steps + [(word, number, 0)])
                with self.assertRaises(BadStep) as caught:
                    Program(8, steps + [(word, number + 1, 0)])
                self.assertEqual(caught.exception.number, number)
        for word in ("add", "less"):
            for number in range(4):
                steps = [("add", 0, 0)] * number
                Program(8, steps + [(word, 0, number)])
                with self.assertRaises(BadStep) as caught:
                    Program(8, steps + [(word, 0, number + 1)])
                self.assertEqual(caught.exception.number, number)

    def test_run_of_no_word(self):
        program = Program(8, [("right", 0, 1)])
        for x in (-1, 256, 10 ** 30, None, True, False, 1.0, "1"):
            with self.assertRaises(BadNumber) as caught:
                program.run(x)
            self.assertIs(caught.exception.value, x)
        self.assertEqual((program.run(0), program.run(255)), (0, 127))

    def test_price(self):
        steps = [("right", 0, 1), ("high", 1, 5), ("right", 2, 0), ("add", 0, 3), ("most", 0, 1)]
        program = Program(8, steps)
        self.assertEqual(program.price({}), 0)
        self.assertEqual(program.price({"right": 3}), 6)
        self.assertEqual(program.price({"right": 3, "high": 10, "less": 7, "other": 5}), 16)
        self.assertEqual(program.price({"right": -3, "add": 10 ** 30, "most": 0}), 10 ** 30 - 6)
        prices = {"right": 1, "high": 1, "add": 1, "most": 1, "left": 1, "turn": 1}
        self.assertEqual(program.price(prices), 5)

    def test_equality(self):
        check_equality(self, Program, [8, (("right", 0, 1),)], [16, (("right", 0, 2),)])
        steps = [("right", 0, 1)]
        program = Program(8, steps)
        steps.append(("add", 0, 0))
        self.assertEqual(program, Program(8, (("right", 0, 1),)))
        self.assertIs(type(program.steps), tuple)


if __name__ == "__main__":
    unittest.main()
