"""Lines step by step ([59], [60])."""

import unittest

from pointorstrip.errors import BadNumber
from pointorstrip.rounded import Line
from pointorstrip.spreads import Spread
from pointorstrip.steppers import Stepper, growths, runs_of, slowed
from trying import generator


def some_line(chance):
    m = chance.choice([1, 2, chance.randint(1, 12), chance.randint(1, 60)])
    a = chance.choice([0, m, 3 * m, chance.randint(-30, 30), chance.randint(-3 * m, 3 * m)])
    return Line(a, chance.randint(-90, 90), m)


def state_of(line, place):
    number = (line.a * place + line.b) // line.m
    return (place, number, line.a * place + line.b - line.m * number)


class StepperTest(unittest.TestCase):
    def check(self, stepper, line, place):
        self.assertEqual(stepper.state(), state_of(line, place))
        self.assertTrue(0 <= stepper.state()[2] < line.m)
        self.assertEqual(stepper, Stepper(line, place))

    def test_drawn_orders(self):
        chance = generator(591)
        for _ in range(150):
            line, place = some_line(chance), chance.choice([0, chance.randint(-50, 50), 10 ** 40])
            stepper = Stepper(line, place)
            self.check(stepper, line, place)
            for _ in range(40):
                word = chance.choice(["step", "step", "back", "back", "skip", "skip_to"])
                if word == "step":
                    self.assertEqual(stepper.step(), line.at(place + 1) - line.at(place))
                    place = place + 1
                elif word == "back":
                    self.assertEqual(stepper.back(), line.at(place) - line.at(place - 1))
                    place = place - 1
                elif word == "skip":
                    many = chance.choice([0, 1, -1, chance.randint(-40, 40), 10 ** 30, -10 ** 30])
                    self.assertIsNone(stepper.skip(many))
                    place = place + many
                else:
                    number = line.at(place) + chance.choice([0, 1, -1, 5, -5, 10 ** 30])
                    found = stepper.skip_to(number)
                    if line.a <= 0:
                        self.assertIsNone(found)
                    else:
                        place = found
                        self.assertGreaterEqual(line.at(place), number)
                        self.assertLess(line.at(place - 1), number)
                self.check(stepper, line, place)

    def test_by_hand(self):
        stepper = Stepper(Line(5, 3, 7), 0)
        self.assertEqual([stepper.step() for _ in range(8)], [1, 0, 1, 1, 1, 0, 1, 1])
        self.assertEqual(stepper.state(), (8, 6, 1))
        self.assertEqual([stepper.back() for _ in range(8)], [1, 1, 0, 1, 1, 1, 0, 1])
        self.assertEqual(stepper.state(), (0, 0, 3))
        stepper = Stepper(Line(-5, 3, 7), 0)
        self.assertEqual([stepper.step() for _ in range(4)], [-1, 0, -1, -1])
        self.assertEqual([stepper.back() for _ in range(4)], [-1, -1, 0, -1])
        stepper = Stepper(Line(0, 3, 7), -5)
        self.assertEqual((stepper.step(), stepper.back(), stepper.state()), (0, 0, (-5, 0, 3)))
        stepper = Stepper(Line(17, 3, 7), 10 ** 50)
        self.assertEqual(stepper.step() + stepper.step(), Line(17, 3, 7).at(10 ** 50 + 2) - Line(17, 3, 7).at(10 ** 50))

    def test_skip_to(self):
        # 3, 10, 17 .. // 2: numbers that are reached by a jump, and such that are jumped over.
        stepper = Stepper(Line(7, 3, 2), 100)
        self.assertEqual([Line(7, 3, 2).at(x) for x in range(4)], [1, 5, 8, 12])
        for number, place in ((5, 1), (6, 2), (8, 2), (9, 3), (12, 3), (1, 0), (0, 0), (-1, 0), (-2, -1), (-3, -1)):
            self.assertEqual(stepper.skip_to(number), place)
            self.assertEqual(stepper.state(), state_of(Line(7, 3, 2), place))
        stepper = Stepper(Line(2, 0, 7), 5)
        for number, place in ((1, 4), (2, 7), (0, 0), (-1, -3)):
            self.assertEqual(stepper.skip_to(number), place)
        for a in (0, -3):
            stepper = Stepper(Line(a, 0, 7), 5)
            for number in (0, -9, 9):
                self.assertIsNone(stepper.skip_to(number))
                self.assertEqual(stepper.state(), state_of(Line(a, 0, 7), 5))

    def test_equality(self):
        line = Line(5, 3, 7)
        stepper = Stepper(line, 4)
        self.assertTrue(stepper == Stepper(Line(5, 3, 7), 4))
        self.assertFalse(stepper != Stepper(line, 4))
        other = Stepper(line, 0)
        self.assertFalse(stepper == other)
        other.skip(4)
        self.assertTrue(stepper == other)
        other.step()
        self.assertTrue(stepper != other)
        for told in (Stepper(Line(5, 4, 7), 4), Stepper(Line(10, 6, 14), 4), line, stepper.state(), None, 4):
            self.assertFalse(stepper == told)

    def test_errors(self):
        line = Line(5, 3, 7)
        stepper = Stepper(line, 4)
        for value in (None, True, 1.0, "1", (1,)):
            for ask in (lambda told: Stepper(line, told), stepper.skip, stepper.skip_to,
                        Stepper(Line(0, 1, 2), 4).skip_to):
                with self.assertRaises(BadNumber) as caught:
                    ask(value)
                self.assertIs(caught.exception.value, value)
        self.assertEqual(stepper.state(), (4, 3, 2))


class GrowthsTest(unittest.TestCase):
    def test_against_the_numbers(self):
        chance = generator(601)
        for _ in range(400):
            line, low = some_line(chance), chance.choice([0, chance.randint(-60, 60), -10 ** 40])
            many = chance.choice([0, 1, chance.randint(0, 80)])
            told = [line.at(x + 1) - line.at(x) for x in range(low, low + many)]
            found = growths(line, low, many)
            self.assertIs(type(found), list)
            self.assertEqual(found, told)
            runs = runs_of(line, low, many)
            self.assertIs(type(runs), list)
            self.assertEqual([grown for grown, often in runs for _ in range(often)], told)
            for at in range(1, len(runs)):
                self.assertNotEqual(runs[at - 1][0], runs[at][0])
            for run in runs:
                self.assertIs(type(run), tuple)
                self.assertGreater(run[1], 0)

    def test_edges(self):
        self.assertEqual(growths(Line(5, 3, 7), 0, 0), [])
        self.assertEqual(runs_of(Line(5, 3, 7), 0, 0), [])
        self.assertEqual(growths(Line(5, 3, 7), 1, 1), [0])
        self.assertEqual(runs_of(Line(5, 3, 7), 1, 1), [(0, 1)])
        self.assertEqual(runs_of(Line(5, 3, 7), 0, 8), [(1, 1), (0, 1), (1, 3), (0, 1), (1, 2)])
        self.assertEqual(runs_of(Line(-5, 3, 7), 0, 4), [(-1, 1), (0, 1), (-1, 2)])
        # Long runs are told in one.
        most = 10 ** 50
        self.assertEqual(runs_of(Line(14, 3, 7), -most, 3 * most), [(2, 3 * most)])
        self.assertEqual(runs_of(Line(1, 0, most), 0, 2 * most),
                         [(0, most - 1), (1, 1), (0, most - 1), (1, 1)])
        self.assertEqual(runs_of(Line(-1, 0, most), 0, most + 1), [(-1, 1), (0, most - 1), (-1, 1)])
        self.assertEqual(runs_of(Line(3 * most - 1, 5, most), 0, most), [(3, 5), (2, 1), (3, most - 6)])

    def test_errors(self):
        for function in (growths, runs_of):
            for low, many, value in (
                (None, -1, -1), (0, None, None), (None, True, True), (0, 1.0, 1.0), (True, 0, True),
                (None, 0, None), (1.0, 3, 1.0), ("0", 3, "0"),
            ):
                with self.assertRaises(BadNumber) as caught:
                    function(Line(5, 3, 7), low, many)
                self.assertIs(caught.exception.value, value)


class SlowedTest(unittest.TestCase):
    def test_against_going_through(self):
        chance = generator(602)
        for _ in range(300):
            m = chance.randint(1, 30)
            line = Line(chance.choice([1, m, chance.randint(1, m)]), chance.randint(-90, 90), m)
            slow = slowed(line)
            self.assertIsInstance(slow, Line)
            places = [x for x in range(3 * m) if line.at(x + 1) > line.at(x)]
            self.assertEqual([slow.at(k) for k in range(len(places))], places)
            for k in (0, 1, 7, 10 ** 30):
                place = slow.at(k)
                self.assertEqual(line.at(place), line.at(0) + k)
                self.assertEqual(line.at(place + 1), line.at(0) + k + 1)

    def test_by_hand(self):
        spread = Spread(3, 8, 5)
        self.assertEqual([slowed(spread.line()).at(k) for k in range(20)],
                         [spread.places().at(k) for k in range(20)])
        self.assertEqual([slowed(Line(1, 0, 1)).at(k) for k in range(4)], [0, 1, 2, 3])
        self.assertEqual([slowed(Line(5, -4, 5)).at(k) for k in range(4)], [0, 1, 2, 3])
        self.assertEqual([slowed(Line(1, 0, 10)).at(k) for k in range(3)], [9, 19, 29])
        self.assertEqual([slowed(Line(1, 9, 10)).at(k) for k in range(3)], [0, 10, 20])

    def test_errors(self):
        for a, m in ((0, 5), (-1, 5), (6, 5), (2, 1), (10 ** 40, 10 ** 40 - 1)):
            with self.assertRaises(BadNumber) as caught:
                slowed(Line(a, 3, m))
            self.assertEqual(caught.exception.value, a)


if __name__ == "__main__":
    unittest.main()
