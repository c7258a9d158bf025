"""Each name of the interface stands, with its arguments, in the file under which it is listed."""

import importlib
import inspect
import unittest

FUNCTIONS = {
    "judging": {"judge": "region"},
    "fewrows": {"few": "region"},
    "leasts": {"least": "region u v", "first": "region"},
    "hulls": {"sides": "corners", "hull": "region"},
    "counting": {"total": "a b m many", "count": "region"},
    "moving": {"scaled": "region times"},
    "agreeing": {
        "agree": "one other low high",
        "judge_below": "one other low high",
        "judge_within": "one other gap low high",
    },
    "extremes": {"greatest": "one other line top"},
    "shortcuts": {"shortcut": "target top"},
    "stairs": {"stairs": "row"},
    "spreads": {"shares": "one other", "spread_of": "row"},
    "dividing": {"cheapest": "bits divisor prices", "divisible": "bits divisor"},
    "lattices": {
        "judge_within": "region lattice",
        "congruent": "rests",
        "meeting": "one other",
    },
    "coins": {
        "pay": "one other amount",
        "ways_to_pay": "one other amount",
        "greatest_unpaid": "one other",
    },
    "regiontexts": {"read_region": "text", "write_region": "region"},
    "formats": {
        "written": "base m e other figures",
        "read": "format_of other d f",
        "comes_back": "format_of other figures m e",
        "judge_back": "format_of other figures",
        "fewest_figures": "format_of other",
    },
    "often": {
        "rises": "one other low high",
        "tallies": "one other low high",
        "differing": "one other low high",
        "nth_place": "one other low number",
    },
    "nearest": {"nearest": "region x y norm"},
    "parting": {"part": "points others"},
    "formulas": {"judge_always": "told", "judge_same": "one other"},
    "loops": {
        "meetings": "one other turns",
        "closest": "one other turns",
        "width": "writes reads turns",
    },
    "rests": {
        "least_rest": "rests",
        "greatest_rest": "rests",
        "count_rests": "rests low high",
        "first_rest": "rests low high",
        "gaps": "rests",
    },
    "ranks": {
        "rank": "region x y",
        "point_at": "region number",
        "next_point": "region x y",
        "fair_parts": "region parts",
        "columns_with": "region many",
    },
    "covered": {"covered": "region low high"},
    "fractions": {
        "simplest": "low high",
        "neighbours": "fraction most",
        "parts_of": "fraction",
        "of_parts": "parts",
    },
    "triangles": {"cut": "corners", "as_sum": "corners times point"},
    "growth": {"growth": "corners", "by_counts": "once twice"},
    "schedules": {
        "meet": "one other",
        "are_apart": "one other shift",
        "arrange": "kinds",
    },
    "conditions": {"read_condition": "text", "write_condition": "told"},
    "scripts": {"run_script": "text"},
    "steppers": {
        "growths": "line low many",
        "runs_of": "line low many",
        "slowed": "line",
    },
    "calendars": {"same_weekdays": "calendar week"},
    "codetexts": {"read_program": "text", "write_program": "program"},
    "composing": {"compose": "one other", "nested": "lines"},
}

CLASSES = {
    "errors": {
        "BadRegion": ("number", {}),
        "BadNumber": ("value", {}),
        "TooLarge": ("number", {}),
    },
    "regions": {"Region": ("rows", {"has": "x y", "with_rows": "rows"})},
    "papers": {
        "Point": ("x y", {"shows": "region"}),
        "Endless": ("x y d e", {"shows": "region"}),
        "Empty": ("weights", {"shows": "region"}),
        "Thin": ("u v", {"shows": "region"}),
    },
    "fewrows": {"Few": ("numbers paper points", {"shows": "region"})},
    "leasts": {
        "Least": ("value x y against", {"shows": "region u v"}),
        "First": ("x y against", {"shows": "region"}),
    },
    "hulls": {"Hull": ("corners papers", {"shows": "region"})},
    "moving": {
        "Turn": ("a b c d e f", {"point": "x y", "back": "", "row": "row", "region": "region"}),
    },
    "rounded": {"Line": ("a b m", {"at": "x", "raised": "many"})},
    "agreeing": {
        "Agree": ("first last", {"shows": "one other low high"}),
        "Differ": ("x ahead", {"shows": "one other low high"}),
        "Below": ("paper", {"shows": "one other low high"}),
        "Above": ("x", {"shows": "one other low high"}),
        "Within": ("first last", {"shows": "one other gap low high"}),
        "Beyond": ("x", {"shows": "one other gap low high"}),
    },
    "shortcuts": {
        "Refusal": ("words paper", {"shows": "target top shift more"}),
        "Shortcut": (
            "shift multiplier offset agreed refused", {"line": "", "shows": "target top"}
        ),
    },
    "stairs": {
        "Stairs": ("line low high", {"shows": "row"}),
        "Crooked": ("low high", {"shows": "row"}),
    },
    "spreads": {
        "Spread": (
            "ticks slots ahead", {"line": "", "has": "slot", "many": "first last", "places": ""}
        ),
        "Shared": ("agreed", {"shows": "one other"}),
        "Unshared": ("slot many", {"shows": "one other"}),
    },
    "words": {"Program": ("bits steps", {"run": "x", "price": "prices"})},
    "dividing": {
        "Wrong": ("x", {}),
        "Torn": ("one other", {}),
        "Cheapest": (
            "key multiplier agreed refused", {"program": "bits", "shows": "bits divisor prices"}
        ),
    },
    "lattices": {
        "Lattice": (
            "one other start",
            {"size": "", "point": "i j", "times": "x y", "pulled": "region"},
        ),
    },
    "coins": {"Unpaid": ("amount against paid", {"shows": "one other"})},
    "formats": {
        "Format": ("base figures low high", {"has": "m e"}),
        "Back": ("papers", {"shows": "format_of other figures"}),
        "Lost": ("m e", {"shows": "format_of other figures"}),
        "Fewest": ("figures back lost", {"shows": "format_of other"}),
    },
    "nearest": {"Nearest": ("far x y against", {"shows": "region x y norm"})},
    "parting": {
        "Parted": ("row", {"shows": "points others"}),
        "Meeting": ("numbers weights others late", {"shows": "points others"}),
    },
    "formulas": {
        "Always": ("papers", {"shows": "told"}),
        "Fails": ("x y", {"shows": "told"}),
    },
    "loops": {
        "Access": ("times more", {"cell": "turn"}),
        "Width": ("number told", {"shows": "writes reads turns"}),
    },
    "rests": {
        "Rests": ("n b m many", {"at": "i", "turned": ""}),
        "LeastRest": ("value i against", {"shows": "rests"}),
    },
    "covered": {
        "Covered": ("pieces", {"shows": "region low high"}),
        "Gap": ("x", {"shows": "region low high"}),
        "Piece": ("first last below above paper", {}),
    },
    "fractions": {
        "Simplest": ("p q against", {"shows": "low high"}),
        "Neighbours": ("low high", {"shows": "fraction most"}),
    },
    "triangles": {"Cut": ("triangles", {"shows": "corners"})},
    "growth": {
        "Growth": ("twice around", {"whole": "times", "within": "times", "on_border": "times"}),
    },
    "schedules": {
        "Deed": ("period start length", {"runs": "time"}),
        "Apart": ("paper", {"shows": "one other"}),
        "Clash": ("time turns ahead", {"shows": "one other"}),
    },
    "books": {
        "Book": ("", {
            "begin": "name rows", "put": "name row", "drop": "name number", "undo": "", "names": "",
            "region": "name", "told": "name", "judged": "name", "common": "names",
        }),
    },
    "steppers": {
        "Stepper": (
            "line place",
            {"state": "", "step": "", "back": "", "skip": "many", "skip_to": "number"},
        ),
    },
    "calendars": {
        "Calendar": ("lengths spread", {
            "short": "", "is_long": "year", "days_in": "year month",
            "is_date": "year month day", "number": "year month day", "date": "number",
            "weekday": "number week", "year_line": "", "fast_year": "top", "month_line": "",
            "fast_month": "",
        }),
    },
    "composing": {
        "Composed": ("line", {"shows": "one other"}),
        "Broken": ("x y", {"shows": "one other"}),
    },
}

# The classes without an equality of their own.
WITHOUT_EQUALITY = ("BadRegion", "BadNumber", "TooLarge", "Book")

# The errors that stand in other files than errors.py.
ERRORS = {
    "words": {"BadStep": "number"},
    "regiontexts": {"BadText": "line column"},
    "formulas": {"BadFormula": "part"},
    "books": {"BadName": "name"},
}

# The evidence that tells its own truth.
WITH_TRUTH = {
    "papers": "Point Endless Empty Thin",
    "agreeing": "Agree Differ Below Above Within Beyond",
    "stairs": "Stairs Crooked",
    "spreads": "Shared Unshared",
    "formats": "Back Lost",
    "parting": "Parted Meeting",
    "formulas": "Always Fails",
    "covered": "Covered Gap",
    "schedules": "Apart Clash",
    "composing": "Composed Broken",
}


class InterfaceTest(unittest.TestCase):
    def check_arguments(self, made, arguments):
        self.assertEqual(list(inspect.signature(made).parameters), arguments.split(), made)

    def test_functions(self):
        for file, functions in FUNCTIONS.items():
            module = importlib.import_module("pointorstrip." + file)
            for name, arguments in functions.items():
                made = getattr(module, name)
                self.assertTrue(inspect.isfunction(made))
                self.assertEqual(made.__module__, "pointorstrip." + file)
                self.check_arguments(made, arguments)

    def test_classes(self):
        for file, classes in CLASSES.items():
            module = importlib.import_module("pointorstrip." + file)
            for name, (arguments, methods) in classes.items():
                made = getattr(module, name)
                self.assertTrue(inspect.isclass(made))
                self.assertEqual(made.__module__, "pointorstrip." + file)
                self.check_arguments(made, arguments)
                for method, more in methods.items():
                    self.assertIn(method, vars(made))
                    self.check_arguments(vars(made)[method], ("self " + more).strip())
                if name not in WITHOUT_EQUALITY:
                    self.assertIn("__eq__", vars(made))

    def test_truth(self):
        for file, names in WITH_TRUTH.items():
            module = importlib.import_module("pointorstrip." + file)
            for name in names.split():
                self.assertIn("__bool__", vars(getattr(module, name)))

    def test_errors_elsewhere(self):
        errors = importlib.import_module("pointorstrip.errors")
        for file, kinds in ERRORS.items():
            module = importlib.import_module("pointorstrip." + file)
            for name, arguments in kinds.items():
                made = getattr(module, name)
                self.assertEqual(made.__module__, "pointorstrip." + file)
                self.assertEqual(made.__bases__, (errors.PlaneError,))
                self.check_arguments(made, arguments)
                for value in (None, 3, "word", (1, 2), 10 ** 6000):
                    values = [value] * len(arguments.split())
                    raised = made(*values)
                    self.assertEqual([getattr(raised, told) for told in arguments.split()], values)
                    str(raised)

    def test_errors(self):
        errors = importlib.import_module("pointorstrip.errors")
        self.assertEqual(errors.PlaneError.__bases__, (ValueError,))
        self.assertEqual(errors.PlaneError.__module__, "pointorstrip.errors")
        for name in CLASSES["errors"]:
            self.assertEqual(getattr(errors, name).__bases__, (errors.PlaneError,))
        # Python does not write out so long a number; an error can hold it all the same.
        for value in (None, 3, True, "word", (1, 2), 10 ** 6000):
            self.assertEqual(errors.BadRegion(value).number, value)
            self.assertEqual(errors.BadNumber(value).value, value)
            self.assertEqual(errors.TooLarge(value).number, value)
            str(errors.BadNumber(value))


if __name__ == "__main__":
    unittest.main()
