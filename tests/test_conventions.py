"""What holds over the whole program ([1], [2])."""

import copy
import importlib
import inspect
import pathlib
import unittest

from pointorstrip import errors
from pointorstrip.agreeing import (
    Above, Agree, Below, Beyond, Differ, Within, agree, judge_below, judge_within,
)
from pointorstrip.books import BadName, Book
from pointorstrip.calendars import Calendar, same_weekdays
from pointorstrip.coins import Unpaid, greatest_unpaid, pay, ways_to_pay
from pointorstrip.composing import Broken, Composed
from pointorstrip.counting import total
from pointorstrip.covered import Covered, Gap, Piece, covered
from pointorstrip.dividing import Cheapest, Torn, Wrong, cheapest, divisible
from pointorstrip.errors import PlaneError
from pointorstrip.fewrows import Few, few
from pointorstrip.formats import (
    Back, Fewest, Format, Lost, fewest_figures, judge_back, read, written,
)
from pointorstrip.formulas import Always, BadFormula, Fails
from pointorstrip.fractions import Neighbours, Simplest, neighbours, of_parts
from pointorstrip.growth import Growth, by_counts, growth
from pointorstrip.hulls import Hull, sides
from pointorstrip.judging import judge
from pointorstrip.lattices import Lattice, congruent
from pointorstrip.leasts import First, Least, first, least
from pointorstrip.loops import Access, Width, closest, meetings, width
from pointorstrip.moving import Turn, scaled
from pointorstrip.nearest import Nearest, nearest
from pointorstrip.often import differing, nth_place, tallies
from pointorstrip.papers import Empty, Endless, Point, Thin
from pointorstrip.parting import Meeting, Parted, part
from pointorstrip.ranks import columns_with, fair_parts, next_point, point_at, rank
from pointorstrip.regions import Region
from pointorstrip.regiontexts import BadText
from pointorstrip.rests import LeastRest, Rests, count_rests, first_rest, gaps
from pointorstrip.rounded import Line
from pointorstrip.schedules import Apart, Clash, Deed, arrange
from pointorstrip.scripts import run_script
from pointorstrip.shortcuts import Refusal, Shortcut, shortcut
from pointorstrip.spreads import Shared, Spread, Unshared, spread_of
from pointorstrip.stairs import Crooked, Stairs, stairs
from pointorstrip.steppers import Stepper, growths, runs_of
from pointorstrip.triangles import Cut, as_sum, cut
from pointorstrip.words import BadStep, Program
from trying import box_rows, generator, refutes, some_rows, some_turn

PACKAGE = pathlib.Path(__file__).resolve().parent.parent / "pointorstrip"

THIN, EMPTY = Thin(1, 0), Empty((1, 1))
LINE, OTHER = Line(1, 0, 7), Line(1, 1, 7)
TRIANGLE = ((0, 0), (1, 0), (0, 1))
AGREE = Agree(THIN, THIN)
MONTHS = Calendar([30, 29], Spread(1, 4, 0))

# All that is True or False by what it tells, with its arguments and others in their places.
TRUE = (
    (Point, (1, 2), (2, 1)), (Endless, (1, 2, 3, 4), (2, 3, 4, 5)), (Agree, (THIN, THIN), (EMPTY, EMPTY)),
    (Below, (THIN,), (EMPTY,)), (Within, (Below(THIN), Below(THIN)), (Below(EMPTY), Below(EMPTY))),
    (Stairs, (LINE, (0, 1), (0, 2)), (OTHER, (0, 2), (1, 2))), (Shared, (AGREE,), (None,)),
    (Back, ({(0, 0, "less"): THIN},), ({},)), (Parted, ((1, 2, 3),), ((1, 2, 4),)),
    (Always, ({(0, 0, 0): THIN},), ({(0, 0, 0): EMPTY},)), (Covered, ((),), ((Piece(1, 2, None, None, None),),)),
    (Apart, (THIN,), (EMPTY,)), (Composed, (LINE,), (OTHER,)),
)
FALSE = (
    (Empty, ((1, 1),), ((1, 2),)), (Thin, (1, 0), (0, 1)), (Differ, (3, AGREE), (4, None)), (Above, (3,), (4,)),
    (Beyond, (3,), (4,)), (Crooked, ((0, 1), (0, 2)), ((0, 2), (1, 2))), (Unshared, (3, 0), (4, 2)),
    (Lost, (8, 1), (9, 2)), (Meeting, ((0,), (1,), (2,), (1,)), ((1,), (2,), (3,), (2,))), (Fails, (1, 2), (2, 1)),
    (Gap, (3,), (4,)), (Clash, (3, (1, 2), THIN), (4, (2, 1), EMPTY)), (Broken, (1, 2), (2, 1)),
)
# All other objects with an equality of their own are True.
OTHERS = (
    (Region, (((1, 2, 3),),), ((),)), (Few, ((0,), THIN, ((1, 2),)), ((1,), EMPTY, ((2, 1),))),
    (Least, (1, 2, 3, THIN), (2, 3, 4, EMPTY)), (First, (1, 2, THIN), (2, 1, EMPTY)),
    (Hull, (((1, 2),), (THIN,) * 4), (((2, 1),), (EMPTY,))), (Turn, (1, 0, 0, 1, 5, 6), (-1, 3, 4, -1, 6, 5)),
    (Line, (1, 2, 3), (2, 3, 4)), (Refusal, (((0, 1),), THIN), (((1, 0),), EMPTY)),
    (Shortcut, (3, 2, 1, AGREE, (None,)), (4, 3, 2, None, ())), (Spread, (2, 5, 1), (3, 4, 0)),
    (Program, (8, (("right", 0, 1),)), (9, ())), (Wrong, (3,), (4,)), (Torn, (3, 4), (4, 3)),
    (Cheapest, (("right", 0, 1), 0, None, {}), (("right", 0, 2), 1, AGREE, {("right", 0, 0): Wrong(1)})),
    (Lattice, ((1, 0), (0, 1), (0, 0)), ((2, 0), (0, 2), (1, 1))), (Unpaid, (1, THIN, (Point(0, 0),)), (2, EMPTY, ())),
    (Format, (2, 3, 0, 5), (3, 4, 1, 6)), (Fewest, (1, Back({}), ()), (2, None, (Lost(1, 1),))),
    (Nearest, (1, 2, 3, THIN), (2, 3, 4, None)), (Access, (1, 2), (2, 1)), (Width, (1, {(0, 0): THIN}), (None, {})),
    (Rests, (1, 2, 3, 4), (2, 3, 4, 5)), (LeastRest, (1, 2, THIN), (2, 1, EMPTY)),
    (Piece, (1, 2, 3, 4, THIN), (2, 3, 4, 5, EMPTY)), (Simplest, (1, 2, THIN), (2, 3, EMPTY)),
    (Neighbours, ((0, 1), (1, 1)), ((1, 2), (1, 2))), (Cut, ((TRIANGLE,),), ((),)), (Growth, (5, 3), (7, 5)),
    (Deed, (5, 6, 2), (6, 7, 3)), (Calendar, ((30,), Spread(1, 4, 0)), ((31,), Spread(1, 4, 1))),
    (Stepper, (LINE, 3), (OTHER, 4)),
)


def alike(made):
    """A thing of another class with the same attributes."""
    class Alike:
        pass

    other = Alike()
    other.__dict__.update(made.__dict__)
    return other


class ObjectsTest(unittest.TestCase):
    def test_all_classes_are_here(self):
        listed = {kind for kind, _, _ in TRUE + FALSE + OTHERS}
        for path in PACKAGE.glob("*.py"):
            if path.stem != "__init__":
                module = importlib.import_module("pointorstrip." + path.stem)
                for name, made in inspect.getmembers(module, inspect.isclass):
                    if made.__module__ == module.__name__ and "__eq__" in vars(made):
                        self.assertIn(made, listed, name)
                    if made.__module__ == module.__name__ and "shows" in vars(made):
                        self.assertIn("__eq__", vars(made))

    def test_truth(self):
        for kind, arguments, _ in TRUE + OTHERS:
            self.assertIs(bool(kind(*arguments)), True, kind)
        for kind, arguments, _ in FALSE:
            self.assertIs(bool(kind(*arguments)), False, kind)

    def test_equality(self):
        everything = [kind(*arguments) for kind, arguments, _ in TRUE + FALSE + OTHERS]
        for at, (kind, arguments, others) in enumerate(TRUE + FALSE + OTHERS):
            made = kind(*arguments)
            self.assertTrue(made == kind(*copy.deepcopy(arguments)), kind)
            self.assertFalse(made != kind(*copy.deepcopy(arguments)), kind)
            for place in range(len(arguments)):
                changed = list(arguments)
                changed[place] = others[place]
                self.assertFalse(made == kind(*changed), (kind, place))
                self.assertTrue(made != kind(*changed), (kind, place))
            for number, other in enumerate(everything):
                self.assertIs(made == other, number == at)
            for other in (None, 0, 1, True, False, "", (), [], {}, tuple(arguments), alike(made)):
                self.assertFalse(made == other, kind)
                self.assertTrue(made != other, kind)

    def test_attributes(self):
        for kind, arguments, _ in TRUE + FALSE + OTHERS:
            names = list(inspect.signature(kind).parameters)
            made = kind(*arguments)
            if kind is not Stepper:
                self.assertEqual([getattr(made, name) for name in names], list(arguments), kind)

    def test_made_of_its_attributes(self):
        for kind, arguments, _ in TRUE + FALSE + OTHERS:
            made = kind(*arguments)
            names = list(inspect.signature(kind).parameters)
            if kind is not Stepper:
                self.assertTrue(made == kind(*[getattr(made, name) for name in names]), kind)

    def test_rows_are_kept_as_tuples(self):
        for kind, arguments, _ in TRUE + FALSE + OTHERS:
            for at, argument in enumerate(arguments):
                changed = list(arguments)
                if isinstance(argument, tuple) and kind in (
                        Region, Few, Hull, Refusal, Program, Unpaid, Fewest, Cut, Calendar, Covered, Empty, Meeting):
                    changed[at] = list(argument)
                    made = kind(*changed)
                    changed[at].append(5)
                    self.assertEqual(made, kind(*arguments))
                if isinstance(argument, dict):
                    changed[at] = dict(argument)
                    made = kind(*changed)
                    changed[at]["more"] = 5
                    self.assertEqual(made, kind(*arguments))


class CallsTest(unittest.TestCase):
    # Functions that return lists or dicts, or take them, with arguments.
    CALLS = (
        (sides, (TRIANGLE,)), (sides, ([(0, 0), (1, 0), (0, 1)],)), (sides, (((3, 4),),)),
        (gaps, (Rests(5, 3, 17, 6),)), (fair_parts, (Region(box_rows(2)), 7)), (growths, (LINE, 0, 20)),
        (runs_of, (LINE, 0, 20)), (run_script, ("region a\nput a x <= 3\nrows a\nundo\nundo\nundo",)),
        (meetings, (Access(1, 0), Access(1, -3), 10)), (Region, ([(1, 2, 3), (4, 5, 6)],)),
        (Region([(1, 2, 3)]).with_rows, ([(4, 5, 6)],)), (stairs, ([0, 31, 61, 92, 122],)),
        (spread_of, ([0, 1, 0, 0, 1],)), (Program, (8, [("right", 0, 1)])),
        (Program(8, [("right", 0, 1)]).price, ({"right": 3, "add": 1},)), (congruent, ([(1, 2), (3, 5)],)),
        (part, ([(0, 0), (1, 1)], [(5, 5)])), (width, ([Access(1, 0)], [Access(1, -3)], 9)),
        (of_parts, ([3, 7, 16],)), (cut, (TRIANGLE,)), (as_sum, (TRIANGLE, 3, (1, 1))), (growth, (TRIANGLE,)),
        (arrange, ([(4, 1), (6, 1)],)), (Calendar, ([30, 29], Spread(1, 4, 0))),
        (Few, ([0, 1], THIN, [(1, 2), (3, 4)])), (Cut, ([TRIANGLE],)), (Covered, ([],)),
    )

    def test_arguments_are_not_changed(self):
        for function, arguments in self.CALLS:
            before = copy.deepcopy(arguments)
            function(*arguments)
            self.assertEqual(arguments, before, function)

    def test_what_is_returned_is_new(self):
        for function, arguments in self.CALLS:
            one, other = function(*arguments), function(*arguments)
            self.assertEqual(one, other, function)
            if isinstance(one, (list, dict)):
                self.assertIsNot(one, other, function)
                one.clear()
                self.assertEqual(function(*arguments), other, function)
                self.assertNotEqual(function(*arguments), one, function)

    def test_errors_are_below_one(self):
        for kind in (errors.BadRegion, errors.BadNumber, errors.TooLarge, BadStep, BadText, BadFormula, BadName):
            self.assertEqual(kind.__bases__, (PlaneError,))
        self.assertEqual(PlaneError.__bases__, (ValueError,))

    # Calls with numbers, each of which may be none, by the places of these.
    NUMBERS = (
        (least, (Region(box_rows(2)), 1, 2), (1, 2)), (total, (1, 2, 3, 4), (0, 1, 2, 3)),
        (Turn, (1, 0, 0, 1, 5, 6), range(6)), (scaled, (Region([]), 3), (1,)), (Line, (1, 2, 3), range(3)),
        (agree, (LINE, OTHER, 0, 9), (2, 3)), (judge_below, (LINE, OTHER, 0, 9), (2, 3)),
        (judge_within, (LINE, OTHER, 1, 0, 9), (2, 3, 4)), (shortcut, (LINE, 9), (1,)), (Spread, (2, 5, 1), range(3)),
        (Program(8, []).run, (5,), (0,)), (cheapest, (8, 7, {}), (0, 1)), (divisible, (8, 7), (0, 1)),
        (pay, (3, 5, 7), range(3)), (ways_to_pay, (3, 5, 7), range(3)), (greatest_unpaid, (3, 5), (0, 1)),
        (Format, (2, 3, 0, 5), range(4)), (written, (2, 5, 0, 10, 3), range(5)),
        (read, (Format(2, 3, 0, 5), 10, 5, 0), (1, 2, 3)), (fewest_figures, (Format(2, 3, 0, 5), 10), (1,)),
        (judge_back, (Format(2, 3, 0, 5), 10, 3), (1, 2)), (tallies, (LINE, OTHER, 0, 9), (2, 3)),
        (differing, (LINE, OTHER, 0, 9), (2, 3)), (nth_place, (LINE, OTHER, 0, 2), (2, 3)),
        (nearest, (Region([]), 1, 2, "sum"), (1, 2)), (Access, (1, 2), (0, 1)),
        (meetings, (Access(1, 0), Access(2, 1), 9), (2,)), (closest, (Access(1, 0), Access(2, 1), 9), (2,)),
        (width, ([], [], 9), (2,)), (Rests, (1, 2, 3, 4), range(4)), (count_rests, (Rests(1, 2, 3, 4), 1, 2), (1, 2)),
        (first_rest, (Rests(1, 2, 3, 4), 1, 2), (1, 2)), (rank, (Region(box_rows(2)), 1, 2), (1, 2)),
        (next_point, (Region(box_rows(2)), 1, 2), (1, 2)), (point_at, (Region(box_rows(2)), 3), (1,)),
        (fair_parts, (Region(box_rows(2)), 3), (1,)), (columns_with, (Region(box_rows(2)), 3), (1,)),
        (covered, (Region([]), 1, 2), (1, 2)), (neighbours, ((1, 3), 2), (1,)), (as_sum, (TRIANGLE, 1, (0, 0)), (1,)),
        (Growth, (5, 3), (0, 1)), (Growth(5, 3).whole, (1,), (0,)), (by_counts, (3, 6), (0, 1)),
        (Deed, (5, 3, 1), range(3)), (Stepper, (LINE, 3), (1,)), (Stepper(LINE, 3).skip, (1,), (0,)),
        (Stepper(LINE, 3).skip_to, (1,), (0,)), (growths, (LINE, 1, 2), (1, 2)), (runs_of, (LINE, 1, 2), (1, 2)),
        (MONTHS.date, (5,), (0,)), (MONTHS.weekday, (5, 7), (0, 1)), (MONTHS.fast_year, (9,), (0,)),
        (same_weekdays, (MONTHS, 7), (1,)),
    )

    def test_no_bool_is_a_number(self):
        for function, arguments, places in self.NUMBERS:
            function(*arguments)
            for place in places:
                for value in (True, False, 1.0, "1"):
                    changed = list(arguments)
                    changed[place] = value
                    with self.assertRaises(errors.BadNumber, msg=(function, place)) as caught:
                        function(*changed)
                    self.assertIs(caught.exception.value, value)

    def test_books_are_apart(self):
        one, other = Book(), Book()
        one.begin("a", [])
        self.assertEqual((one.names(), other.names()), (("a",), ()))


class ShowsTest(unittest.TestCase):
    """Evidence may be about regions of many rows and long numbers, whoever made it."""

    LONG = 10 ** 1000

    def test_papers(self):
        long = self.LONG
        rows = [(number, -number, long) for number in range(500)]
        region = Region(rows + [(2, 4, 2 * long + 1), (-2, -4, -2 * long - 1)])
        self.assertIs(Thin(1, 2).shows(region), True)
        self.assertIs(Thin(1, 1).shows(region), False)
        self.assertIs(Point(long, 0).shows(region), False)
        self.assertIs(Empty([0] * 502).shows(region), False)
        empty = region.with_rows([(0, 0, -long)])
        self.assertIs(Empty([0] * 502 + [long]).shows(empty), True)
        self.assertIs(Thin(1, 2).shows(empty), False)
        self.assertIs(Point(0, long).shows(Region(rows)), True)
        self.assertIs(Endless(0, 0, long, long).shows(Region(rows)), True)
        self.assertIs(Endless(0, 0, long, 0).shows(Region(rows)), False)

    def test_evidence_of_long_numbers(self):
        long = self.LONG
        region = Region([(-1, 0, -long), (0, -1, long)] * 60)
        against = Empty([1] + [0] * 119 + [1])
        self.assertIs(First(long, -long, against).shows(region), True)
        self.assertIs(First(long, 1 - long, against).shows(region), False)
        self.assertIs(Least(long, long, 5, against).shows(region, 1, 0), True)
        self.assertIs(Few((0, 2), EMPTY, ((0, 0), (long, 0))).shows(region), False)
        self.assertIs(Gap(long).shows(Region([(1, 0, 5)] * 99), 0, long), True)
        self.assertIs(Covered([Piece(0, long, None, None, None)]).shows(Region([(1, 0, long)] * 99), 0, long), True)
        self.assertIs(Neighbours((0, 1), (1, long)).shows((1, long * long), long), True)
        self.assertIs(LeastRest(1, long, Thin(1, 0)).shows(Rests(1, 1, long, long)), False)
        self.assertIs(LeastRest(1, 0, Thin(0, 1)).shows(Rests(1, 1, long, long - 1)), True)
        self.assertIs(Composed(Line(1, 0, long * long)).shows(Line(1, 0, long), Line(1, 0, long)), True)
        told = Clash(long, (0, 0), Empty([1, 0, 0, 0, 1]))
        self.assertIs(told.shows(Deed(long, long, 1), Deed(long, long, 1)), True)
        self.assertIs(told.shows(Deed(long, long, 1), Deed(long, 0, 1)), False)


class PromiseTest(unittest.TestCase):
    """The main promise, over regions of all kinds."""

    def some_regions(self):
        chance = generator(11)
        for _ in range(150):
            rows = some_rows(chance, chance.choice([4, 9]))
            if chance.random() < 0.4:
                rows = rows + box_rows(chance.randint(0, 9))
            yield Region(rows)
            yield some_turn(chance, 10 ** chance.choice([1, 6, 12])).region(Region(rows))

    def test_each_region_is_decided(self):
        seen = {}
        for region in self.some_regions():
            found = judge(region)
            seen[type(found)] = seen.get(type(found), 0) + 1
            self.assertIs(found.shows(region), True)
            told = few(region)
            if isinstance(found, Point):
                self.assertIsNone(told)
                self.assertTrue(region.has(found.x, found.y))
                continue
            self.assertTrue(refutes(found, region.rows))
            self.assertLessEqual(len(told.numbers), 4)
            self.assertTrue(refutes(told.paper, [region.rows[number] for number in told.numbers]))
            for ask in (first(region), least(region, 3, -2)):
                self.assertTrue(refutes(ask, region.rows))
        self.assertEqual(len(seen), 3)
        self.assertGreater(min(seen.values()), 20)

    def test_four_rows_are_needed_now_and_then(self):
        # Around (1 / 2, 1 / 2): each row keeps just one corner of the square out.
        region = Region([(1, 2, 2), (-2, 1, 0), (2, -1, 1), (-1, -2, -1)])
        self.assertFalse(judge(region))
        self.assertEqual(few(region).numbers, (0, 1, 2, 3))


if __name__ == "__main__":
    unittest.main()
