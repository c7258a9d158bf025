"""Each name of the interface stands, with its arguments, in the file under which it is listed."""

import importlib
import inspect
import unittest

FUNCTIONS = {
    "judging": {"judge": "region"},
    "fewrows": {"few": "region"},
    "leasts": {"least": "region u v", "first": "region"},
    "hulls": {"sides": "corners", "hull": "region"},
    "counting": {"total": "a b m many", "count": "region"},
    "moving": {"scaled": "region times"},
    "agreeing": {
        "agree": "one other low high",
        "judge_below": "one other low high",
        "judge_within": "one other gap low high",
    },
    "extremes": {"greatest": "one other line top"},
    "shortcuts": {"shortcut": "target top"},
}

CLASSES = {
    "errors": {
        "BadRegion": ("number", {}),
        "BadNumber": ("value", {}),
        "TooLarge": ("number", {}),
    },
    "regions": {"Region": ("rows", {"has": "x y", "with_rows": "rows"})},
    "papers": {
        "Point": ("x y", {"shows": "region"}),
        "Endless": ("x y d e", {"shows": "region"}),
        "Empty": ("weights", {"shows": "region"}),
        "Thin": ("u v", {"shows": "region"}),
    },
    "fewrows": {"Few": ("numbers paper points", {"shows": "region"})},
    "leasts": {
        "Least": ("value x y against", {"shows": "region u v"}),
        "First": ("x y against", {"shows": "region"}),
    },
    "hulls": {"Hull": ("corners papers", {"shows": "region"})},
    "moving": {
        "Turn": ("a b c d e f", {"point": "x y", "back": "", "row": "row", "region": "region"}),
    },
    "rounded": {"Line": ("a b m", {"at": "x", "raised": "many"})},
    "agreeing": {
        "Agree": ("first last", {"shows": "one other low high"}),
        "Differ": ("x ahead", {"shows": "one other low high"}),
        "Below": ("paper", {"shows": "one other low high"}),
        "Above": ("x", {"shows": "one other low high"}),
        "Within": ("first last", {"shows": "one other gap low high"}),
        "Beyond": ("x", {"shows": "one other gap low high"}),
    },
    "shortcuts": {
        "Refusal": ("words paper", {"shows": "target top shift more"}),
        "Shortcut": (
            "shift multiplier offset agreed refused", {"line": "", "shows": "target top"}
        ),
    },
}


class InterfaceTest(unittest.TestCase):
    def check_arguments(self, made, arguments):
        self.assertEqual(list(inspect.signature(made).parameters), arguments.split(), made)

    def test_functions(self):
        for file, functions in FUNCTIONS.items():
            module = importlib.import_module("pointorstrip." + file)
            for name, arguments in functions.items():
                made = getattr(module, name)
                self.assertTrue(inspect.isfunction(made))
                self.assertEqual(made.__module__, "pointorstrip." + file)
                self.check_arguments(made, arguments)

    def test_classes(self):
        for file, classes in CLASSES.items():
            module = importlib.import_module("pointorstrip." + file)
            for name, (arguments, methods) in classes.items():
                made = getattr(module, name)
                self.assertTrue(inspect.isclass(made))
                self.assertEqual(made.__module__, "pointorstrip." + file)
                self.check_arguments(made, arguments)
                for method, more in methods.items():
                    self.assertIn(method, vars(made))
                    self.check_arguments(vars(made)[method], ("self " + more).strip())
                if file != "errors":
                    self.assertIn("__eq__", vars(made))

    def test_errors(self):
        errors = importlib.import_module("pointorstrip.errors")
        self.assertEqual(errors.PlaneError.__bases__, (ValueError,))
        self.assertEqual(errors.PlaneError.__module__, "pointorstrip.errors")
        for name in CLASSES["errors"]:
            self.assertEqual(getattr(errors, name).__bases__, (errors.PlaneError,))
        # Python does not write out so long a number; an error can hold it all the same.
        for value in (None, 3, True, "word", (1, 2), 10 ** 6000):
            self.assertEqual(errors.BadRegion(value).number, value)
            self.assertEqual(errors.BadNumber(value).value, value)
            self.assertEqual(errors.TooLarge(value).number, value)
            str(errors.BadNumber(value))


if __name__ == "__main__":
    unittest.main()
