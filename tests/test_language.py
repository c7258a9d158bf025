"""The files of the package keep to the subset of Python that they are written in.

Not all of its rules are tested here, but those that are broken without notice.
"""

import ast
import builtins
import pathlib
import unittest

PACKAGE = pathlib.Path(__file__).resolve().parent.parent / "pointorstrip"

LIBRARY = {"math": {"gcd", "lcm"}, "itertools": {"combinations"}}
BUILTINS = {
    "len", "range", "enumerate", "zip", "min", "max", "sum", "abs", "sorted", "reversed", "int",
    "str", "bool", "list", "tuple", "dict", "set", "isinstance", "any", "all", "divmod", "super",
    "ValueError", "True", "False", "None",
}
METHODS = {
    "append", "clear", "copy", "count", "extend", "get", "index", "insert", "items", "keys", "pop",
    "remove", "reverse", "setdefault", "update", "values", "bit_length",
    "split", "join", "isascii", "isdigit", "isalpha", "islower",
}
UNUSED = {
    "mro", "elements", "open", "input", "law", "version_info", "with_traceback", "add_note",
    "register", "copyright", "credits", "dir", "exit", "gc", "help", "id", "license", "os", "quit",
    "sys", "type", "vars", "iter", "next", "map",
}
DOUBLE = {"__init__", "__eq__", "__bool__"}
AT_ONCE = {"range", "zip", "enumerate", "reversed", "combinations"}
TAKERS = {
    "list", "tuple", "dict", "sorted", "sum", "any", "all", "enumerate", "zip", "min", "max",
    "combinations",
}
OWN_ERRORS = {"PlaneError", "BadRegion", "BadNumber", "TooLarge"}
# What the interface calls a method of one class and an attribute of others.
BOTH = {"back", "line", "many", "number", "region", "row", "times", "told"}
STATEMENTS = (
    ast.Assign, ast.If, ast.While, ast.For, ast.Return, ast.Break, ast.Continue, ast.Pass,
    ast.Raise, ast.Expr, ast.FunctionDef, ast.ClassDef, ast.ImportFrom, ast.Try,
)
BARRED = (
    ast.Lambda, ast.GeneratorExp, ast.SetComp, ast.Set, ast.NamedExpr, ast.Starred, ast.Await,
    ast.Yield, ast.YieldFrom, ast.Div, ast.MatMult, ast.AnnAssign, ast.AugAssign,
)


def files():
    return sorted(PACKAGE.glob("*.py"))


def trees():
    return [(path, ast.parse(path.read_text("utf-8"))) for path in files()]


def is_docstring(tree, node):
    for parent in ast.walk(tree):
        if isinstance(parent, (ast.Module, ast.ClassDef, ast.FunctionDef)):
            if parent.body and parent.body[0] is node and isinstance(node, ast.Expr):
                return isinstance(node.value, ast.Constant)
    return False


def is_plain(node, functions):
    """Whether a value at module level is a constant, a sum, product and the like, or a tuple.

    It may be a dict of such or of functions above it, too.
    """
    if isinstance(node, ast.Dict):
        parts = node.keys + [part for part in node.values if not isinstance(part, ast.Name)]
        names = {part.id for part in node.values if isinstance(part, ast.Name)}
        return names <= set(functions) and all(
            not isinstance(part, ast.Dict) and is_plain(part, []) for part in parts)
    if isinstance(node, ast.Tuple):
        return all(is_plain(part, []) for part in node.elts)
    if isinstance(node, ast.BinOp):
        return is_plain(node.left, []) and is_plain(node.right, [])
    return isinstance(node, ast.Constant)


def bound_names(function):
    """The parameters and local variables of a function."""
    names = [argument.arg for argument in function.args.args]
    for node in ast.walk(function):
        if isinstance(node, ast.Name) and isinstance(node.ctx, ast.Store):
            names.append(node.id)
    return names


class LanguageTest(unittest.TestCase):
    def test_folder(self):
        for path in PACKAGE.iterdir():
            if path.name != "__pycache__":
                self.assertTrue(path.is_file() and path.suffix == ".py", path)
                stem = path.stem
                self.assertTrue(stem == "__init__" or stem.isidentifier() and stem == stem.lower())
                self.assertNotIn(stem, dir(builtins))
        self.assertTrue((PACKAGE / "__init__.py").is_file())

    def test_text(self):
        for path in files():
            text = path.read_text("utf-8")
            self.assertTrue(all(" " <= sign <= "~" or sign == "\n" for sign in text), path)
            lines = text.split("\n")
            self.assertLessEqual(len(lines), 399, path)
            self.assertLessEqual(max(len(line) for line in lines), 120, path)

    def test_statements_and_expressions(self):
        for path, tree in trees():
            for node in ast.walk(tree):
                if isinstance(node, ast.stmt):
                    self.assertIsInstance(node, STATEMENTS, (path, node.lineno))
                if isinstance(node, ast.Expr):
                    call = isinstance(node.value, ast.Call)
                    self.assertTrue(call or is_docstring(tree, node), (path, node.lineno))
                if isinstance(node, BARRED):
                    self.fail((path, ast.dump(node)))
                if isinstance(node, ast.Try):
                    self.assertFalse(node.finalbody or node.orelse, (path, node.lineno))
                    for handler in node.handlers:
                        self.assertIn(handler.type.id, OWN_ERRORS, (path, node.lineno))
                        self.assertIsNone(handler.name)
                if isinstance(node, ast.FormattedValue):
                    self.assertEqual(node.conversion, -1)
                    self.assertIsNone(node.format_spec)
                    self.assertIsInstance(node.value, (ast.Name, ast.Attribute), (path, node.lineno))
                if isinstance(node, ast.Constant):
                    self.assertIn(type(node.value), (int, str, bool, type(None)), path)
                if isinstance(node, ast.BinOp) and isinstance(node.op, ast.Pow):
                    self.assertIsInstance(node.right, ast.Constant, (path, node.lineno))

    def test_strings(self):
        for path, tree in trees():
            inner = [node.value for node in ast.walk(tree)
                     if isinstance(node, ast.Expr) and is_docstring(tree, node)]
            for node in ast.walk(tree):
                if isinstance(node, ast.Constant) and isinstance(node.value, str):
                    if node not in inner:
                        self.assertNotIn("%", node.value)
                        self.assertNotIn("type", node.value.split())

    def test_imports(self):
        graph = {}
        for path, tree in trees():
            graph[path.stem] = []
            in_body = True
            for node in tree.body:
                if isinstance(node, ast.ImportFrom):
                    self.assertTrue(in_body, path)
                    self.check_import(path, node, graph)
                elif not is_docstring(tree, node):
                    in_body = False
            for node in ast.walk(tree):
                self.assertNotIsInstance(node, ast.Import)
                if isinstance(node, ast.ImportFrom):
                    self.assertIn(node, tree.body)
            self.check_use_of_imports(path, tree)
        while graph:
            free = [name for name in graph if not set(graph[name]) & set(graph)]
            self.assertTrue(free, "files import from each other: " + ", ".join(graph))
            for name in free:
                del graph[name]

    def check_import(self, path, node, graph):
        self.assertEqual(node.level, 0)
        for told in node.names:
            self.assertIsNone(told.asname)
            self.assertNotEqual(told.name, "*")
        if node.module in LIBRARY:
            self.assertLessEqual({told.name for told in node.names}, LIBRARY[node.module])
            return
        package, name = node.module.split(".")
        self.assertEqual(package, "pointorstrip")
        graph[path.stem].append(name)
        other = ast.parse((PACKAGE / (name + ".py")).read_text("utf-8"))
        defined = {made.name for made in other.body if hasattr(made, "name")}
        for made in other.body:
            if isinstance(made, ast.Assign):
                defined.add(made.targets[0].id)
        for told in node.names:
            self.assertIn(told.name, defined, path)

    def check_use_of_imports(self, path, tree):
        bound = [told.name for node in tree.body if isinstance(node, ast.ImportFrom)
                 for told in node.names]
        self.assertEqual(len(bound), len(set(bound)), path)
        used = {node.id for node in ast.walk(tree) if isinstance(node, ast.Name)}
        self.assertLessEqual(set(bound), used, path)
        classes = [node.name for node in tree.body if isinstance(node, ast.ClassDef)]
        for function in [node for node in ast.walk(tree) if isinstance(node, ast.FunctionDef)]:
            for name in bound_names(function):
                self.assertNotIn(name, bound + classes, (path, function.name))

    def test_module_level(self):
        for path, tree in trees():
            names = []
            for node in tree.body:
                if isinstance(node, ast.Assign):
                    self.assertEqual(len(node.targets), 1)
                    self.assertTrue(is_plain(node.value, names), (path, node.lineno))
                    names.append(node.targets[0].id)
                elif isinstance(node, (ast.FunctionDef, ast.ClassDef)):
                    names.append(node.name)
                elif not isinstance(node, ast.ImportFrom):
                    self.assertTrue(is_docstring(tree, node), (path, node.lineno))
            self.assertEqual(len(names), len(set(names)), path)

    def test_functions(self):
        for path, tree in trees():
            for node in ast.walk(tree):
                if isinstance(node, ast.FunctionDef):
                    self.assertEqual(node.decorator_list, [])
                    self.assertLessEqual(node.end_lineno - node.lineno + 1, 40, (path, node.name))
                    told = node.args
                    self.assertFalse(told.defaults or told.vararg or told.kwarg or told.kwonlyargs)
                    inner = [made for made in ast.walk(node) if isinstance(made, ast.FunctionDef)]
                    self.assertEqual(inner, [node])

    def test_names(self):
        for path, tree in trees():
            names = []
            for node in ast.walk(tree):
                if isinstance(node, (ast.FunctionDef, ast.ClassDef)):
                    names.append(node.name)
                if isinstance(node, ast.FunctionDef):
                    names.extend(bound_names(node))
                if isinstance(node, ast.Attribute):
                    names.append(node.attr)
                if isinstance(node, ast.Name) and node.id == "_":
                    self.assertIsInstance(node.ctx, ast.Store, path)
            for name in names:
                if name not in DOUBLE:
                    self.assertFalse(name.startswith("__"), (path, name))
                self.assertNotIn(name, UNUSED, path)
                if name not in METHODS and name != "_":
                    self.assertNotIn(name, dir(builtins), path)

    def test_calls(self):
        own = {node.name for _, tree in trees() for node in ast.walk(tree)
               if isinstance(node, (ast.FunctionDef, ast.ClassDef))}
        library = {name for names in LIBRARY.values() for name in names}
        for path, tree in trees():
            # Functions that are taken from a table get a name first.
            taken = {node.targets[0].id for node in ast.walk(tree) if isinstance(node, ast.Assign)
                     and isinstance(node.value, ast.Subscript)
                     and isinstance(node.targets[0], ast.Name)}
            for node in ast.walk(tree):
                if not isinstance(node, ast.Call):
                    continue
                where = (path, node.lineno)
                if isinstance(node.func, ast.Name):
                    self.assertIn(node.func.id, own | BUILTINS | library | taken, where)
                else:
                    self.assertIn(node.func.attr, own | METHODS, where)
                for told in node.keywords:
                    if told.arg == "start":
                        self.assertEqual(node.func.id, "enumerate", where)
                    else:
                        self.assertEqual(told.arg, "default", where)

    def test_what_is_iterated_at_once(self):
        for path, tree in trees():
            allowed = []
            for node in ast.walk(tree):
                if isinstance(node, (ast.For, ast.comprehension)):
                    allowed.append(node.iter)
                if isinstance(node, ast.Call) and isinstance(node.func, ast.Name):
                    if node.func.id in TAKERS:
                        allowed.extend(node.args[:1])
            for node in ast.walk(tree):
                if isinstance(node, ast.Call) and isinstance(node.func, ast.Name):
                    if node.func.id in AT_ONCE:
                        self.assertIn(node, allowed, (path, node.lineno))
                    if node.func.id == "set":
                        outer = [call for call in ast.walk(tree) if isinstance(call, ast.Call)
                                 and node in call.args and call.func.id in ("sorted", "len")]
                        self.assertTrue(outer, (path, node.lineno))

    def test_classes(self):
        attributes = set()
        methods = set()
        classes = set()
        for path, tree in trees():
            for made in [node for node in tree.body if isinstance(node, ast.ClassDef)]:
                own = set()
                classes.add(made.name)
                for node in made.body:
                    if not is_docstring(tree, node):
                        self.assertIsInstance(node, ast.FunctionDef)
                        methods.add(node.name)
                        self.check_equality(path, made, node)
                for node in ast.walk(made):
                    if isinstance(node, ast.Attribute) and isinstance(node.ctx, ast.Store):
                        self.assertEqual(node.value.id, "self")
                        own.add(node.attr)
                here = {node.name for node in made.body if isinstance(node, ast.FunctionDef)}
                self.assertEqual(own & here, set(), made.name)
                attributes |= own
        self.assertEqual(attributes & methods, BOTH)
        for path, tree in trees():
            for node in ast.walk(tree):
                if isinstance(node, ast.Attribute) and isinstance(node.value, ast.Name):
                    self.assertNotIn(node.value.id, classes, (path, node.lineno))
        for kind in (str, int, list, dict, set, bytes, tuple):
            self.assertEqual((attributes | methods - DOUBLE) & set(dir(kind)) - {"index"}, set())

    def check_equality(self, path, made, method):
        if method.name != "__eq__":
            return
        self.assertEqual(len(method.body), 1, path)
        told = method.body[0].value
        self.assertIsInstance(told, ast.BoolOp)
        self.assertIsInstance(told.op, ast.And)
        self.assertEqual(ast.unparse(told.values[0]), f"isinstance(other, {made.name})")


if __name__ == "__main__":
    unittest.main()
