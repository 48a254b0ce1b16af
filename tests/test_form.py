"""The form of the package's files: the rules that a walk over the code can see."""

import ast
import builtins
import pathlib
import unittest

PACKAGE = pathlib.Path(__file__).resolve().parent.parent / "swaykeep"
FILES = sorted(path for path in PACKAGE.rglob("*") if "__pycache__" not in path.parts)

# the builtins that the package uses, all of them allowed
BUILTINS = {"abs", "all", "any", "bool", "dict", "enumerate", "int", "isinstance", "len", "list", "max", "min", "range",
            "reversed", "set", "sorted", "str", "sum", "tuple", "type", "zip", "ValueError"}
METHODS = {"append", "count", "extend", "get", "index", "isalpha", "isascii", "isdigit", "islower", "items", "join",
           "partition", "pop", "replace", "setdefault", "split", "startswith"}
# what the interface names so: a parameter with the name of a function of its file
NAMED_SO = {("swings", "goings")}
BARRED = {"register", "mro", "elements", "open", "input", "law", "help", "id", "vars", "dir", "type", "super", "exit",
          "hash", "next", "iter", "format"}
NODES = (
    ast.Module, ast.Expr, ast.Constant, ast.ImportFrom, ast.alias, ast.FunctionDef, ast.arguments, ast.arg,
    ast.ClassDef, ast.Return, ast.If, ast.For, ast.While, ast.Raise, ast.Assign, ast.AugAssign, ast.Name, ast.Load,
    ast.Store, ast.Attribute, ast.Call, ast.keyword, ast.Compare, ast.BoolOp, ast.And, ast.Or, ast.UnaryOp, ast.Not,
    ast.USub, ast.BinOp, ast.Add, ast.Sub, ast.Mult, ast.Eq, ast.NotEq, ast.Lt, ast.LtE, ast.Gt, ast.GtE, ast.Is,
    ast.IsNot, ast.In, ast.NotIn, ast.IfExp, ast.Tuple, ast.List, ast.Dict, ast.ListComp, ast.DictComp,
    ast.comprehension, ast.Subscript, ast.Slice, ast.Starred, ast.JoinedStr, ast.FormattedValue, ast.Mod, ast.Delete,
    ast.Del, ast.Break, ast.LShift, ast.RShift, ast.BitAnd, ast.Try,
    ast.ExceptHandler)


def tree_of(path):
    return ast.parse(path.read_text())


def imports_of(path):
    return [node for node in ast.walk(tree_of(path)) if isinstance(node, ast.ImportFrom)]


class FormTest(unittest.TestCase):
    def test_files(self):
        for path in FILES:
            self.assertEqual(PACKAGE, path.parent)
            self.assertRegex(path.name, r"^[a-z_]+\.py$")
            text = path.read_text()
            self.assertRegex(text, r"\A[ -~\n]*\n\Z", path.name)
            self.assertLessEqual(len(text.splitlines()), 399)
            self.assertLessEqual(max(len(row) for row in text.splitlines()), 120)

    def test_functions_are_small_and_told_of(self):
        for path in FILES:
            for node in ast.walk(tree_of(path)):
                if isinstance(node, ast.FunctionDef):
                    self.assertLessEqual(node.end_lineno - node.lineno + 1, 40, node.name)
                    self.assertEqual([], node.decorator_list)
                    if not node.name.startswith("__"):
                        self.assertTrue(ast.get_docstring(node), node.name)

    def test_only_plain_kinds_of_code(self):
        for path in FILES:
            for node in ast.walk(tree_of(path)):
                self.assertIsInstance(node, NODES, path.name)
                if isinstance(node, ast.Constant):
                    self.assertIn(type(node.value), (int, str, bool, type(None)))
                    self.assertNotIn("%", str(node.value))
                if isinstance(node, ast.Compare):
                    for sign, side in zip(node.ops, node.comparators):
                        if isinstance(sign, (ast.Is, ast.IsNot)):
                            self.assertIsInstance(side, ast.Constant)

    def test_only_own_refusals_are_caught(self):
        names = {node.name for node in tree_of(PACKAGE / "errors.py").body if isinstance(node, ast.ClassDef)}
        for path in FILES:
            for node in ast.walk(tree_of(path)):
                if isinstance(node, ast.ExceptHandler):
                    caught = node.type.elts if isinstance(node.type, ast.Tuple) else [node.type]
                    self.assertLessEqual({name.id for name in caught}, names)
                if isinstance(node, ast.Attribute) and node.attr.startswith("__"):
                    self.assertIn(ast.unparse(node), ("type(e).__name__",), path.name)
                if isinstance(node, ast.Name) and node.id == "type":
                    self.assertEqual(1, path.read_text().count("type("))

    def test_imports_name_the_file_that_defines_the_name_and_go_one_way(self):
        resting = {}
        for path in FILES:
            for node in imports_of(path):
                package, module = node.module.split(".")
                self.assertEqual(("swaykeep", 0), (package, node.level))
                resting.setdefault(path.stem, []).append(module)
                body = tree_of(PACKAGE / f"{module}.py").body
                defined = [getattr(row, "name", None) for row in body]
                defined.extend(row.targets[0].id for row in body if isinstance(row, ast.Assign))
                for name in node.names:
                    self.assertIn(name.name, defined)
                    self.assertIsNone(name.asname)
                    used = [part.id for part in ast.walk(tree_of(path)) if isinstance(part, ast.Name)]
                    self.assertIn(name.name, used, path.name)
        left = dict(resting)
        while left:
            free = [file for file, modules in left.items() if not set(modules) & set(left)]
            self.assertTrue(free, left)
            left = {file: modules for file, modules in left.items() if file not in free}

    def test_names(self):
        for path in FILES:
            tree = tree_of(path)
            fixed = {name.name for node in imports_of(path) for name in node.names}
            fixed |= {node.name for node in ast.walk(tree) if isinstance(node, ast.ClassDef)}
            defined = {node.name for node in tree.body if isinstance(node, (ast.FunctionDef, ast.ClassDef))}
            for node in ast.walk(tree):
                told = None
                if isinstance(node, ast.Name) and isinstance(node.ctx, ast.Store):
                    told = node.id
                elif isinstance(node, ast.arg):
                    told = node.arg
                if told is not None:
                    self.assertNotIn(told, fixed | BARRED, path.name)
                    self.assertFalse(hasattr(builtins, told), (path.name, told))
                    self.assertTrue(told not in defined or (path.stem, told) in NAMED_SO, (path.name, told))
                if isinstance(node, ast.FunctionDef):
                    self.assertNotIn(node.name, BARRED)
                    self.assertTrue(node.name.startswith("__") or not hasattr(builtins, node.name), node.name)

    def test_builtins_and_methods(self):
        for path in FILES:
            for node in ast.walk(tree_of(path)):
                if isinstance(node, ast.Name) and hasattr(builtins, node.id):
                    self.assertIn(node.id, BUILTINS, path.name)
                if isinstance(node, ast.Call) and isinstance(node.func, ast.Attribute):
                    if hasattr(str, node.func.attr) or hasattr(list, node.func.attr) or hasattr(dict, node.func.attr):
                        self.assertIn(node.func.attr, METHODS, path.name)
                        self.assertEqual([], node.keywords)

    def test_what_is_iterated_stands_where_it_is_iterated(self):
        for path in FILES:
            tree = tree_of(path)
            places = []
            for node in ast.walk(tree):
                if isinstance(node, (ast.For, ast.comprehension)):
                    places.append(node.iter)
                if isinstance(node, ast.Call) and isinstance(node.func, ast.Name) and node.args:
                    if node.func.id in ("list", "tuple", "sorted", "enumerate", "zip"):
                        places.append(node.args[0])
            for node in ast.walk(tree):
                if isinstance(node, ast.Call):
                    name = node.func.id if isinstance(node.func, ast.Name) else node.func.attr
                    if name in ("range", "zip", "enumerate", "reversed", "set", "items", "keys", "values"):
                        self.assertTrue(any(node is place for place in places), (path.name, node.lineno))

    def test_module_level(self):
        for path in FILES:
            tree = tree_of(path)
            self.assertTrue(ast.get_docstring(tree), path.name)
            for node in tree.body[1:]:
                self.assertIsInstance(node, (ast.ImportFrom, ast.FunctionDef, ast.ClassDef, ast.Assign))
                if isinstance(node, ast.Assign):
                    self.assertTrue(self.is_plain(node.value, tree, node.lineno), (path.name, node.lineno))

    def is_plain(self, value, tree, line):
        """Whether a value is a literal one, or a table of functions that are defined above a line."""
        above = [row.name for row in tree.body if isinstance(row, ast.FunctionDef) and row.lineno < line]
        if isinstance(value, ast.Dict) and all(isinstance(part, ast.Name) for part in value.values):
            return all(part.id in above for part in value.values)
        return ast.literal_eval(value) is not None

    def test_functions_of_tables_are_called_by_a_name(self):
        for path in FILES:
            for node in ast.walk(tree_of(path)):
                if isinstance(node, ast.Call):
                    self.assertIsInstance(node.func, (ast.Name, ast.Attribute), (path.name, node.lineno))


if __name__ == "__main__":
    unittest.main()
