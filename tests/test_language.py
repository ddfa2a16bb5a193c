"""The package keeps to its small part of Python: what of LANGUAGE.md a walk through the code can see."""

import ast
import builtins
import re
import unittest
from pathlib import Path

PACKAGE = Path(__file__).parent.parent / "flowtells"
BUILTINS = set(
    "len range enumerate zip min max sum abs sorted reversed int str bool list tuple dict set isinstance ord any all "
    "divmod repr map ValueError KeyError staticmethod super type".split())
METHODS = set(
    "append copy count endswith extend find get index insert isdigit items join keys pop remove replace reverse "
    "setdefault sort split startswith strip update values bit_length isascii add discard".split())
STATEMENTS = (
    ast.Assign, ast.AugAssign, ast.AnnAssign, ast.If, ast.While, ast.For, ast.Return, ast.Break, ast.Continue, ast.Pass,
    ast.Raise, ast.Assert, ast.Delete, ast.Try, ast.Expr, ast.FunctionDef, ast.ClassDef, ast.ImportFrom)
DOUBLE = {"__init__", "__eq__", "__str__", "__bool__"}
BARRED = {"mro", "elements", "open", "input", "law", "register", "_wall", "eval", "exec", "compile", "id", "vars", "dir"}
LIBRARY = {"heapq", "math", "itertools", "collections"}


def files():
    """The files of the package."""
    return sorted(PACKAGE.rglob("*.py"))


def trees():
    """Each file with its code as a tree."""
    return [(path, ast.parse(path.read_text(encoding="utf-8"))) for path in files()]


def defined(tree):
    """The names that a file defines, not imports, at module level."""
    names = [node.name for node in tree.body if isinstance(node, (ast.FunctionDef, ast.ClassDef))]
    return names + [target.id for node in tree.body if isinstance(node, ast.Assign) for target in node.targets]


def stored(tree):
    """All names that are given a meaning within functions: parameters and targets."""
    names = [node.id for node in ast.walk(tree) if isinstance(node, ast.Name) and not isinstance(node.ctx, ast.Load)]
    return names + [node.arg for node in ast.walk(tree) if isinstance(node, ast.arg)]


class Files(unittest.TestCase):

    def test_folder_holds_python_files_alone(self):
        for path in PACKAGE.rglob("*"):
            if "__pycache__" not in path.parts:
                self.assertTrue(path.suffix == ".py" and re.fullmatch(r"[a-z0-9_]+\.py", path.name), path)
                self.assertFalse(path.stem in dir(builtins) or path.stem.startswith(("test", "law_")), path)

    def test_sizes_and_signs(self):
        for path in files():
            text = path.read_text(encoding="utf-8")
            self.assertTrue(re.fullmatch(r"[ -~\n]*", text), path)
            lines = text.splitlines()
            self.assertLess(len(lines), 400, path)
            self.assertEqual([line for line in lines if len(line) > 120 or line != line.rstrip()], [], path)

    def test_functions_have_forty_lines_at_most(self):
        for path, tree in trees():
            for node in ast.walk(tree):
                if isinstance(node, ast.FunctionDef):
                    self.assertLessEqual(node.end_lineno - node.lineno + 1, 40, (path, node.name))

    def test_imports(self):
        found = dict(trees())
        for path, tree in found.items():
            for node in ast.walk(tree):
                self.assertNotIsInstance(node, ast.Import, path)
                if isinstance(node, ast.ImportFrom) and node.module not in LIBRARY:
                    self.assertEqual((node.level, node.module.split(".")[0]), (0, "flowtells"), path)
                    names = defined(found[PACKAGE / (node.module.split(".")[1] + ".py")])
                    self.assertTrue(all(item.name in names and item.asname is None for item in node.names), path)

    def test_no_imports_in_a_circle(self):
        needs = {path.stem: {node.module.split(".")[-1] for node in tree.body if isinstance(node, ast.ImportFrom)}
                 for path, tree in trees()}
        while needs:
            free = [name for name, wanted in needs.items() if not wanted & set(needs)]
            self.assertTrue(free, needs)
            needs = {name: wanted for name, wanted in needs.items() if name not in free}

    def test_nothing_imported_in_vain(self):
        for path, tree in trees():
            used = {node.id for node in ast.walk(tree) if isinstance(node, ast.Name)}
            for node in tree.body:
                if isinstance(node, ast.ImportFrom):
                    self.assertEqual([item.name for item in node.names if item.name not in used], [], path)


class Names(unittest.TestCase):

    def test_builtins(self):
        for path, tree in trees():
            for node in ast.walk(tree):
                if isinstance(node, ast.Name) and hasattr(builtins, node.id):
                    self.assertIn(node.id, BUILTINS, (path, node.lineno))

    def test_no_name_of_a_builtin_class_or_import_is_given_another_meaning(self):
        for path, tree in trees():
            taken = {item.name for node in tree.body if isinstance(node, ast.ImportFrom) for item in node.names}
            taken |= {node.name for node in tree.body if isinstance(node, ast.ClassDef)}
            own = stored(tree) + [node.name for node in ast.walk(tree) if isinstance(node, ast.FunctionDef)]
            self.assertEqual([name for name in own if hasattr(builtins, name) and name not in DOUBLE], [], path)
            self.assertEqual([name for name in stored(tree) if name in taken or name in BARRED], [], path)

    def test_each_name_is_bound_once_at_module_level(self):
        for path, tree in trees():
            names = defined(tree)
            names += [item.name for node in tree.body if isinstance(node, ast.ImportFrom) for item in node.names]
            self.assertEqual(len(names), len(set(names)), path)

    def test_double_underscores(self):
        for path, tree in trees():
            for node in ast.walk(tree):
                name = getattr(node, "name", getattr(node, "id", getattr(node, "attr", "")))
                if isinstance(name, str) and name.startswith("__"):
                    self.assertIn(name, DOUBLE, (path, node.lineno))

    def test_methods_of_builtin_values(self):
        own = {node.name for _, tree in trees() for node in ast.walk(tree) if isinstance(node, ast.FunctionDef)}
        for path, tree in trees():
            for node in ast.walk(tree):
                if isinstance(node, ast.Call) and isinstance(node.func, ast.Attribute):
                    self.assertIn(node.func.attr, METHODS | own, (path, node.lineno))

    def test_attributes_that_are_read_are_assigned(self):
        attributes = [node for _, tree in trees() for node in ast.walk(tree) if isinstance(node, ast.Attribute)]
        known = {node.attr for node in attributes if isinstance(node.ctx, ast.Store)} | METHODS
        known |= {node.name for _, tree in trees() for node in ast.walk(tree) if isinstance(node, ast.FunctionDef)}
        self.assertEqual([node.attr for node in attributes if node.attr not in known], [])


class Code(unittest.TestCase):

    def test_module_level(self):
        for path, tree in trees():
            self.assertTrue(ast.get_docstring(tree), path)
            for node in tree.body[1:]:
                self.assertIsInstance(node, (ast.ImportFrom, ast.FunctionDef, ast.ClassDef, ast.Assign), path)
                if isinstance(node, ast.Assign):
                    ast.literal_eval(node.value)

    def test_statements(self):
        for path, tree in trees():
            for node in ast.walk(tree):
                if isinstance(node, ast.stmt):
                    self.assertIsInstance(node, STATEMENTS, (path, node.lineno))

    def test_decorators(self):
        for path, tree in trees():
            for node in ast.walk(tree):
                for one in getattr(node, "decorator_list", []):
                    self.assertEqual(ast.unparse(one), "staticmethod", path)

    def test_generator_expressions_stand_nowhere(self):
        # Where a class has __eq__, any, all, min, max, sum and sorted take a list.
        for path, tree in trees():
            for node in ast.walk(tree):
                self.assertNotIsInstance(
                    node, (ast.GeneratorExp, ast.Lambda, ast.Yield, ast.YieldFrom, ast.Await, ast.NamedExpr), path)

    def test_operators_and_values(self):
        for path, tree in trees():
            for node in ast.walk(tree):
                self.assertNotIsInstance(node, (ast.Div, ast.MatMult, ast.Pow), path)
                if isinstance(node, ast.Constant):
                    self.assertNotIsInstance(node.value, (float, complex, bytes), path)
                    self.assertFalse(isinstance(node.value, str) and "%" in node.value, path)

    def test_behind_a_star_stands_a_name_or_an_attribute_of_one(self):
        for path, tree in trees():
            for node in ast.walk(tree):
                if isinstance(node, ast.Starred):
                    named = node.value.value if isinstance(node.value, ast.Attribute) else node.value
                    self.assertIsInstance(named, ast.Name, (path, node.lineno))

    def test_is_stands_with_none_or_a_class(self):
        for path, tree in trees():
            for node in ast.walk(tree):
                if isinstance(node, ast.Compare) and isinstance(node.ops[0], (ast.Is, ast.IsNot)):
                    right = ast.unparse(node.comparators[0])
                    left = ast.unparse(node.left)
                    self.assertTrue(right in ("None", "True", "False") or left.startswith("type("), (path, node.lineno))

    def test_handlers_name_own_errors(self):
        own = {node.name for _, tree in trees() for node in ast.walk(tree) if isinstance(node, ast.ClassDef)}
        for path, tree in trees():
            for node in ast.walk(tree):
                if isinstance(node, ast.ExceptHandler):
                    self.assertIn(ast.unparse(node.type), own, path)
                if isinstance(node, ast.Raise):
                    self.assertIn(ast.unparse(node.exc.func), own, path)

    def test_equality_asks_for_the_class_first(self):
        for path, tree in trees():
            for node in ast.walk(tree):
                if isinstance(node, ast.ClassDef):
                    for method in node.body:
                        if isinstance(method, ast.FunctionDef) and method.name == "__eq__":
                            first = ast.unparse(method.body[0])
                            ways = (f"if not isinstance(other, {node.name}):", f"return isinstance(other, {node.name})")
                            self.assertTrue(first.startswith(ways), (path, node.name))

    def test_every_function_and_class_says_what_it_is(self):
        for path, tree in trees():
            for node in ast.walk(tree):
                if isinstance(node, ast.ClassDef) or (
                        isinstance(node, ast.FunctionDef) and not node.name.startswith("__")):
                    self.assertTrue(ast.get_docstring(node), (path, node.name))


if __name__ == "__main__":
    unittest.main()
