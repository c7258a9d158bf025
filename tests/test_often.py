"""At how many places rounded lines differ ([36])."""

import unittest

from pointorstrip.errors import BadNumber, TooLarge
from pointorstrip.often import differing, nth_place, rises, tallies
from pointorstrip.rounded import Line
from trying import generator, some_lines

FAR = 900


def tried(places, rule, ends):
    """At how many places a rule holds, None if it goes on where there is no end."""
    low, high = ends
    held = [x for x in places if rule(x)]
    # Beyond some hundred places such lines go on as they do there.
    if low is None and [x for x in held if x < 200 - FAR]:
        return None
    if high is None and [x for x in held if x > FAR - 200]:
        return None
    return len(held)


class OftenTest(unittest.TestCase):
    def test_against_going_through(self):
        chance = generator(361)
        seen = {}
        for _ in range(700):
            one, other = some_lines(chance)
            low = chance.choice([None, chance.randint(-30, 30)])
            high = chance.choice([None, chance.randint(-30, 30)])
            places = range(-FAR if low is None else low, (FAR if high is None else high) + 1)
            above = tried(places, lambda x: one.at(x) > other.at(x), (low, high))
            unlike = tried(places, lambda x: one.at(x) != other.at(x), (low, high))
            case = (vars(one), vars(other), low, high)
            self.assertEqual(rises(one, other, low, high), above, case)
            self.assertEqual(differing(one, other, low, high), unlike, case)
            kind = (low is None, high is None, unlike is None, unlike == 0)
            seen[kind] = seen.get(kind, 0) + 1
            if low is not None and high is not None:
                under = len([x for x in places if one.at(x) < other.at(x)])
                told = tallies(one, other, low, high)
                self.assertEqual(told, (above, len(places) - above - under, under), case)
                self.assertIs(type(told), tuple)
        # Without an end lines differ nowhere, or without end.
        self.assertEqual(len(seen), 8)

    def test_places_against_going_through(self):
        chance = generator(362)
        for _ in range(150):
            one, other = some_lines(chance)
            low = chance.randint(-30, 30)
            unlike = [x for x in range(low, low + FAR) if one.at(x) != other.at(x)]
            endless = [x for x in unlike if x > low + FAR - 200]
            for number in (0, 1, 2, 7, len(unlike) - 1, len(unlike)):
                if 0 <= number < len(unlike):
                    self.assertEqual(nth_place(one, other, low, number), unlike[number])
                elif number >= 0 and not endless:
                    self.assertIsNone(nth_place(one, other, low, number))

    def test_by_hand(self):
        third, quick = Line(1, 0, 3), Line(171, 0, 512)
        self.assertEqual(rises(third, quick, 0, 511), 0)
        self.assertEqual(differing(third, quick, 0, 511), 0)
        self.assertEqual(differing(third, quick, 0, 512), 1)
        self.assertEqual(rises(quick, third, 0, 512), 1)
        self.assertIsNone(differing(third, quick, 0, None))
        self.assertEqual(nth_place(third, quick, 0, 0), 512)
        self.assertEqual(nth_place(third, quick, 512, 0), 512)
        self.assertEqual(nth_place(third, quick, 513, 0), 515)
        # Lines that cross: above on one side without end, on the other nowhere.
        up, flat = Line(1, 0, 1), Line(0, 5, 1)
        self.assertIsNone(rises(up, flat, None, None))
        self.assertIsNone(rises(up, flat, 0, None))
        self.assertEqual(rises(up, flat, None, 9), 4)
        self.assertEqual(rises(flat, up, 0, None), 5)
        self.assertEqual(tallies(up, flat, 0, 9), (4, 1, 5))
        self.assertEqual(tallies(flat, up, 0, 9), (5, 1, 4))
        # Lines that never part.
        for low, high in ((None, None), (0, None), (None, 0), (-5, 5)):
            self.assertEqual(differing(Line(1, 0, 2), Line(2, 1, 4), low, high), 0)
            self.assertEqual(rises(Line(1, 0, 2), Line(2, 1, 4), low, high), 0)
        self.assertIsNone(nth_place(Line(1, 0, 2), Line(2, 1, 4), 0, 0))
        self.assertEqual(tallies(Line(1, 0, 2), Line(2, 1, 4), -5, 5), (0, 11, 0))
        # Lines that differ at some places of each period.
        self.assertIsNone(differing(Line(1, 0, 3), Line(1, 1, 3), None, None))
        self.assertEqual(differing(Line(1, 0, 3), Line(1, 1, 3), 0, 299), 100)
        self.assertEqual([nth_place(Line(1, 0, 3), Line(1, 1, 3), 0, k) for k in range(4)],
                         [2, 5, 8, 11])
        # Differing at few places, from some place on nowhere.
        few, more = Line(0, 0, 1), Line(-1, 0, 1)
        self.assertEqual(differing(few, more, 0, 0), 0)
        self.assertEqual(nth_place(few, more, -3, 0), -3)
        self.assertEqual(nth_place(few, more, -3, 3), 1)

    def test_empty_ranges(self):
        one, other = Line(0, 9, 1), Line(0, 0, 1)
        for low, high in ((5, 4), (0, -10 ** 30)):
            self.assertEqual(rises(one, other, low, high), 0)
            self.assertEqual(differing(one, other, low, high), 0)
            self.assertEqual(tallies(one, other, low, high), (0, 0, 0))
        self.assertEqual(tallies(one, other, 5, 5), (1, 0, 0))

    def test_far_ranges(self):
        third, quick = Line(1, 0, 3), Line(2863311531, 0, 2 ** 33)
        self.assertEqual(tallies(third, quick, 0, 2 ** 32 - 1), (0, 2 ** 32, 0))
        far = 10 ** 39
        self.assertEqual(tallies(Line(1, 0, 3), Line(1, 1, 3), 0, 3 * far - 1), (0, 2 * far, far))
        self.assertEqual(tallies(Line(1, 1, 3), Line(1, 0, 3), 0, 3 * far - 1), (far, 2 * far, 0))
        self.assertEqual(nth_place(Line(1, 0, 3), Line(1, 1, 3), 0, far), 3 * far + 2)
        self.assertEqual(nth_place(Line(1, 0, 3), Line(1, 1, 3), -3 * far, far), 2)
        self.assertEqual(nth_place(Line(1, 0, 3), Line(1, 1, 3), 0, far ** 5), 3 * far ** 5 + 2)
        exact = Line(far + 1, 0, far)
        self.assertEqual(nth_place(Line(1, 0, 1), exact, 0, 0), far)
        self.assertEqual(nth_place(Line(1, 0, 1), exact, 0, 10), far + 10)
        self.assertEqual(differing(Line(1, 0, 1), exact, 1 - far, far + 5), far - 1 + 6)
        # A single place of a long period.
        rare = Line(1, far - 1, far)
        self.assertEqual(nth_place(Line(1, 0, far), rare, 1, 0), 1)
        self.assertEqual(differing(Line(1, 0, far), Line(1, 1, far), 0, 5 * far - 1), 5)
        self.assertEqual(nth_place(Line(1, 0, far), Line(1, 1, far), 0, 4), 5 * far - 1)

    def test_long_numbers_of_rises(self):
        # What is told of a count is told for numbers of any length.
        long = 10 ** 50
        self.assertEqual(rises(Line(1, long, long), Line(1, 0, long), 0, long - 1), long)
        self.assertEqual(rises(Line(1, 0, 1), Line(0, 5, 1), None, 9 * long), 9 * long - 5)

    def check_ends(self, function, more):
        """The errors of what takes a line's numbers and ends above 40 figures."""
        fine, most = Line(1, 2, 3), 10 ** 40
        for one, other, figures in (
            (Line(most, 2, 3), fine, 41), (Line(1, -most, 3), fine, 41), (Line(1, 2, most), fine, 41),
            (fine, Line(-most, 2, 3), 41), (fine, Line(1, most - 1, 3), 41), (fine, Line(1, 2, 10 * most), 42),
        ):
            with self.assertRaises(TooLarge) as caught:
                function(one, other, 0, more)
            self.assertEqual(caught.exception.number, figures)
        with self.assertRaises(TooLarge) as caught:
            function(fine, fine, -most, more)
        self.assertEqual(caught.exception.number, 41)

    def test_errors_of_tallies(self):
        self.check_ends(tallies, 5)
        fine, long = Line(1, 2, 3), Line(10 ** 40, 2, 3)
        for low, high, value in (
            (None, None, None), ("low", "high", "low"), (True, 5, True), (0, None, None), (0, 1.0, 1.0),
            (10 ** 40, False, False),
        ):
            for one in (fine, long):
                with self.assertRaises(BadNumber) as caught:
                    tallies(one, fine, low, high)
                self.assertIs(caught.exception.value, value)
        with self.assertRaises(TooLarge) as caught:
            tallies(fine, fine, 0, 10 ** 41)
        self.assertEqual(caught.exception.number, 42)
        self.assertEqual(tallies(fine, fine, 1 - 10 ** 40, 10 ** 40 - 1), (0, 2 * 10 ** 40 - 1, 0))

    def test_errors_of_differing(self):
        self.check_ends(differing, 5)
        self.check_ends(differing, None)
        fine, long = Line(1, 2, 3), Line(10 ** 40, 2, 3)
        for low, high, value in (
            ("low", "high", "low"), (None, "high", "high"), (True, None, True), (0, False, False),
            (1.0, 10 ** 40, 1.0),
        ):
            for one in (fine, long):
                with self.assertRaises(BadNumber) as caught:
                    differing(one, fine, low, high)
                self.assertIs(caught.exception.value, value)
        with self.assertRaises(TooLarge) as caught:
            differing(fine, fine, None, -10 ** 40)
        self.assertEqual(caught.exception.number, 41)
        # Of the other line it is -b - 1 that counts.
        self.assertIsNone(differing(fine, Line(1, -10 ** 40, 3), None, None))

    def test_errors_of_nth_place(self):
        self.check_ends(nth_place, 5)
        # The range's numbers are told ahead of the number of a place.
        self.check_ends(nth_place, None)
        fine, long = Line(1, 2, 3), Line(10 ** 40, 2, 3)
        for low in (None, True, 1.0, "0"):
            for one in (fine, long):
                for number in (0, None):
                    with self.assertRaises(BadNumber) as caught:
                        nth_place(one, fine, low, number)
                    self.assertIs(caught.exception.value, low)
        for number in (-1, None, True, 1.0, "0"):
            with self.assertRaises(BadNumber) as caught:
                nth_place(fine, Line(1, 0, 3), 0, number)
            self.assertIs(caught.exception.value, number)


if __name__ == "__main__":
    unittest.main()
