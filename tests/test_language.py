"""The package keeps to its small part of Python: what of LANGUAGE.md a walk through the code can see."""

import ast
import builtins
import re
import unittest
from pathlib import Path

PACKAGE = Path(__file__).parent.parent / "flowtells"
BUILTINS = set(
    "len range enumerate zip min max sum abs sorted reversed int str bool list tuple dict set isinstance ord any all "
    "divmod repr map ValueError KeyError staticmethod super type".split())
METHODS = set(
    "append copy count endswith extend find get index insert isdigit items join keys pop remove replace reverse "
    "setdefault sort split startswith strip update values bit_length isascii add discard".split())
STATEMENTS = (
    ast.Assign, ast.AugAssign, ast.AnnAssign, ast.If, ast.While, ast.For, ast.Return, ast.Break, ast.Continue, ast.Pass,
    ast.Raise, ast.Assert, ast.Delete, ast.Try, ast.Expr, ast.FunctionDef, ast.ClassDef, ast.ImportFrom)
DOUBLE = {"__init__", "__eq__", "__str__", "__bool__"}
BARRED = {"mro", "elements", "open", "input", "law", "register", "_wall", "eval", "exec", "compile", "id", "vars", "dir"}
LIBRARY = {"heapq", "math", "itertools", "collections"}
WALKS = {"range", "zip", "enumerate", "reversed"}
VIEWS = {"items", "keys", "values"}
WALKERS = {"list", "tuple", "sorted", "sum", "min", "max", "any", "all"}


def files():
    """The files of the package."""
    return sorted(PACKAGE.rglob("*.py"))


def trees():
    """Each file with its code as a tree."""
    return [(path, ast.parse(path.read_text(encoding="utf-8"))) for path in files()]


def defined(tree):
    """The names that a file defines, not imports, at module level."""
    names = [node.name for node in tree.body if isinstance(node, (ast.FunctionDef, ast.ClassDef))]
    return names + [target.id for node in tree.body if isinstance(node, ast.Assign) for target in node.targets]


def stored(tree):
    """All names that are given a meaning within functions: parameters and targets."""
    names = [node.id for node in ast.walk(tree) if isinstance(node, ast.Name) and not isinstance(node.ctx, ast.Load)]
    return names + [node.arg for node in ast.walk(tree) if isinstance(node, ast.arg)]


def parents(tree):
    """Each part of a tree of code with the part that it stands in."""
    return {part: node for node in ast.walk(tree) for part in ast.iter_child_nodes(node)}


def called(node):
    """The name of the builtin that a part of code calls, or None."""
    return node.func.id if isinstance(node, ast.Call) and isinstance(node.func, ast.Name) else None


def walk_of(node):
    """The word of a range, zip, enumerate or reversed, or of a view of a dict, that a part of code makes, or None."""
    if called(node) in WALKS:
        return called(node)
    is_view = isinstance(node, ast.Call) and isinstance(node.func, ast.Attribute) and node.func.attr in VIEWS
    return node.func.attr if is_view else None


def is_gone_through(node, within):
    """Whether a part of code stands behind the in of a for or of a comprehension."""
    return isinstance(within, (ast.For, ast.comprehension)) and within.iter is node


def is_first_of(node, within, names):
    """Whether a part of code is what a call of one of these builtins gets first; min and max get it alone."""
    return (called(within) in names and within.args[:1] == [node]
            and (called(within) not in ("min", "max") or len(within.args) == 1))


def is_asked_for_a_member(node, within):
    """Whether a part of code stands behind the in or the not in of a comparison of two."""
    return (isinstance(within, ast.Compare) and len(within.ops) == 1 and within.comparators == [node]
            and isinstance(within.ops[0], (ast.In, ast.NotIn)))


def is_walked_on_the_spot(node, within):
    """Whether what a part of code makes is iterated where it stands, as L23, Iterated at once, tells."""
    word = walk_of(node)
    if is_gone_through(node, within) or is_first_of(node, within, WALKERS | {"dict", "enumerate", "zip"}):
        return True
    if word in VIEWS | {"range"} and is_first_of(node, within, {"len"}):
        return True
    if word == "range" and is_first_of(node, within, {"reversed"}):
        return True
    if word in ("range", "keys") and is_asked_for_a_member(node, within):
        return True
    return (isinstance(within, ast.Call) and isinstance(within.func, ast.Attribute) and within.func.attr == "join"
            and isinstance(within.func.value, ast.Constant) and within.args == [node])


def is_read_as_a_range(node, above):
    """Whether a kept range is used here as L23, Kept ranges, tells."""
    within = above[node]
    if is_gone_through(node, within) or is_asked_for_a_member(node, within):
        return True
    if is_first_of(node, within, WALKERS | {"len"}):
        return True
    if isinstance(within, ast.Subscript):
        return within.value is node and isinstance(within.ctx, ast.Load) and not isinstance(within.slice, ast.Slice)
    is_with_others = called(within) in WALKS - {"range"} and node in within.args
    return is_with_others and is_walked_on_the_spot(within, above[within])


def is_named_in(tree, name):
    """Whether a name stands anywhere in a tree of code."""
    return any(isinstance(part, ast.Name) and part.id == name for part in ast.walk(tree))


def is_kept_rightly(node, above):
    """Whether a part of code is a range, alone behind a plain variable of a function that is assigned once and only
    used as it may be. L23 lets zips and views be kept, too; the package keeps none."""
    line = scope = above[node]
    while not isinstance(scope, (ast.FunctionDef, ast.Module)):
        scope = above[scope]
    if walk_of(node) != "range" or not isinstance(line, ast.Assign) or not isinstance(scope, ast.FunctionDef):
        return False
    if len(line.targets) > 1 or not isinstance(line.targets[0], ast.Name):
        return False
    name = line.targets[0].id
    inner = [part for part in ast.walk(scope) if part is not scope and isinstance(
        part, (ast.FunctionDef, ast.Lambda, ast.GeneratorExp))]
    if stored(scope).count(name) > 1 or any(is_named_in(part, name) for part in inner):
        return False
    reads = [part for part in ast.walk(scope) if isinstance(part, ast.Name) and part.id == name]
    return all(is_read_as_a_range(part, above) for part in reads if isinstance(part.ctx, ast.Load))


def walks_kept(tree):
    """The lines of a file on which something is made to be walked and is kept otherwise than L23 lets it be."""
    above = parents(tree)
    walks = [node for node in ast.walk(tree) if walk_of(node)]
    return [node.lineno for node in walks
            if not is_walked_on_the_spot(node, above[node]) and not is_kept_rightly(node, above)]


class Files(unittest.TestCase):

    def test_folder_holds_python_files_alone(self):
        for path in PACKAGE.rglob("*"):
            if "__pycache__" not in path.parts:
                self.assertTrue(path.suffix == ".py" and re.fullmatch(r"[a-z0-9_]+\.py", path.name), path)
                self.assertFalse(path.stem in dir(builtins) or path.stem.startswith(("test", "law_")), path)

    def test_sizes_and_signs(self):
        for path in files():
            text = path.read_text(encoding="utf-8")
            self.assertTrue(re.fullmatch(r"[ -~\n]*", text), path)
            lines = text.splitlines()
            self.assertLess(len(lines), 400, path)
            self.assertEqual([line for line in lines if len(line) > 120 or line != line.rstrip()], [], path)

    def test_functions_have_forty_lines_at_most(self):
        for path, tree in trees():
            for node in ast.walk(tree):
                if isinstance(node, ast.FunctionDef):
                    self.assertLessEqual(node.end_lineno - node.lineno + 1, 40, (path, node.name))

    def test_imports(self):
        found = dict(trees())
        for path, tree in found.items():
            for node in ast.walk(tree):
                self.assertNotIsInstance(node, ast.Import, path)
                if isinstance(node, ast.ImportFrom) and node.module not in LIBRARY:
                    self.assertEqual((node.level, node.module.split(".")[0]), (0, "flowtells"), path)
                    names = defined(found[PACKAGE / (node.module.split(".")[1] + ".py")])
                    self.assertTrue(all(item.name in names and item.asname is None for item in node.names), path)

    def test_no_imports_in_a_circle(self):
        needs = {path.stem: {node.module.split(".")[-1] for node in tree.body if isinstance(node, ast.ImportFrom)}
                 for path, tree in trees()}
        while needs:
            free = [name for name, wanted in needs.items() if not wanted & set(needs)]
            self.assertTrue(free, needs)
            needs = {name: wanted for name, wanted in needs.items() if name not in free}

    def test_nothing_imported_in_vain(self):
        for path, tree in trees():
            used = {node.id for node in ast.walk(tree) if isinstance(node, ast.Name)}
            for node in tree.body:
                if isinstance(node, ast.ImportFrom):
                    self.assertEqual([item.name for item in node.names if item.name not in used], [], path)


class Names(unittest.TestCase):

    def test_builtins(self):
        for path, tree in trees():
            for node in ast.walk(tree):
                if isinstance(node, ast.Name) and hasattr(builtins, node.id):
                    self.assertIn(node.id, BUILTINS, (path, node.lineno))

    def test_no_name_of_a_builtin_class_or_import_is_given_another_meaning(self):
        for path, tree in trees():
            taken = {item.name for node in tree.body if isinstance(node, ast.ImportFrom) for item in node.names}
            taken |= {node.name for node in tree.body if isinstance(node, ast.ClassDef)}
            own = stored(tree) + [node.name for node in ast.walk(tree) if isinstance(node, ast.FunctionDef)]
            self.assertEqual([name for name in own if hasattr(builtins, name) and name not in DOUBLE], [], path)
            self.assertEqual([name for name in stored(tree) if name in taken or name in BARRED], [], path)

    def test_each_name_is_bound_once_at_module_level(self):
        for path, tree in trees():
            names = defined(tree)
            names += [item.name for node in tree.body if isinstance(node, ast.ImportFrom) for item in node.names]
            self.assertEqual(len(names), len(set(names)), path)

    def test_double_underscores(self):
        for path, tree in trees():
            for node in ast.walk(tree):
                name = getattr(node, "name", getattr(node, "id", getattr(node, "attr", "")))
                if isinstance(name, str) and name.startswith("__"):
                    self.assertIn(name, DOUBLE, (path, node.lineno))

    def test_methods_of_builtin_values(self):
        own = {node.name for _, tree in trees() for node in ast.walk(tree) if isinstance(node, ast.FunctionDef)}
        for path, tree in trees():
            for node in ast.walk(tree):
                if isinstance(node, ast.Call) and isinstance(node.func, ast.Attribute):
                    self.assertIn(node.func.attr, METHODS | own, (path, node.lineno))

    def test_attributes_that_are_read_are_assigned(self):
        attributes = [node for _, tree in trees() for node in ast.walk(tree) if isinstance(node, ast.Attribute)]
        known = {node.attr for node in attributes if isinstance(node.ctx, ast.Store)} | METHODS
        known |= {node.name for _, tree in trees() for node in ast.walk(tree) if isinstance(node, ast.FunctionDef)}
        self.assertEqual([node.attr for node in attributes if node.attr not in known], [])


class Walks(unittest.TestCase):

    def kept(self, *lines):
        return walks_kept(ast.parse("def f(xs, d, paper):\n" + "".join(f"    {line}\n" for line in lines)))

    def test_the_package(self):
        for path, tree in trees():
            self.assertEqual(walks_kept(tree), [], path)

    def test_on_the_spot(self):
        for line in (
                "for k in range(3): pass", "return [a for a, b in zip(xs, xs)]", "return {k: v for k, v in d.items()}",
                "return list(range(3))", "return tuple(reversed(xs))", "return sorted(d.values())",
                "return dict(zip(xs, xs))", "return max(d.values())", "return min(d.values(), default=0)",
                "return list(enumerate(zip(*xs), start=1))", "return list(reversed(range(3)))",
                "return [k for k in reversed(range(3))]", "return 3 in range(4)", "return 3 not in d.keys()",
                "return len(d.items()) + len(range(3))", "return ' '.join(d.keys())"):
            self.assertEqual(self.kept(line), [], line)

    def test_not_on_the_spot(self):
        for line in (
                "return range(3)", "return [range(3)]", "return xs, zip(xs, xs)", "paper.spots = range(3)",
                "return set(d.values())", "return max(d.values(), xs)", "return d.values() == xs",
                "return len(zip(xs))", "return xs in d.values()", "return reversed(range(3))",
                "return list(reversed(d.items()))", "return f(range(3), d, xs)", "a, b = range(2)",
                "a, *b = zip(xs, xs)", "return paper.join(d.keys())",
                "pairs = zip(xs, xs)", "view = d.items()", "back = reversed(xs)", "return range(3) or xs"):
            self.assertEqual(self.kept(line), [2], line)

    def test_ranges_kept(self):
        for line in (
                "return [one + other for one in spots for other in spots]", "for k in spots: xs.append(k)",
                "return sorted(spots) + list(spots)", "return len(spots) + max(spots)", "return 3 in spots",
                "return spots[0]", "return list(zip(xs, spots))", "return [k for k in reversed(spots)]",
                "return [[d[k] for k in spots] for _ in spots]"):
            self.assertEqual(self.kept("spots = range(3)", line), [], line)

    def test_ranges_kept_wrongly(self):
        for line in (
                "return spots", "return spots[1:]", "return f(spots, d, xs)", "xs.append(spots)", "paper.spots = spots",
                "return spots == xs", "return [spots]", "if spots: return 1", "return set(spots)", "spots = xs",
                "for spots in xs: pass", "return [spots for spots in xs]", "return sum(k for k in spots)",
                "return lambda: [k for k in spots]", "pairs = list(enumerate([spots]))", "return d[spots]"):
            self.assertEqual(self.kept("spots = range(3)", line), [2], line)
        self.assertEqual(self.kept("spots = range(3)", "pairs = zip(xs, spots)"), [2, 3])
        self.assertEqual(self.kept("spots: object = range(3)", "return list(spots)"), [2])
        self.assertEqual(self.kept("xs = range(3)", "return list(xs)"), [2])

    def test_several_targets(self):
        read = "return [one + other for one in spots for other in spots]"
        for line in (
                "merged, spots = f(xs, d, paper), range(3)", "spots, merged = range(3), xs", "(spots,) = (range(3),)",
                "[spots, merged] = [range(3), xs]", "merged = spots = range(3)"):
            self.assertEqual(self.kept(line, read), [2], line)
        self.assertEqual(self.kept("merged = f(xs, d, paper)", "spots = range(3)", read), [])


class Code(unittest.TestCase):

    def test_module_level(self):
        for path, tree in trees():
            self.assertTrue(ast.get_docstring(tree), path)
            for node in tree.body[1:]:
                self.assertIsInstance(node, (ast.ImportFrom, ast.FunctionDef, ast.ClassDef, ast.Assign), path)
                if isinstance(node, ast.Assign):
                    ast.literal_eval(node.value)

    def test_statements(self):
        for path, tree in trees():
            for node in ast.walk(tree):
                if isinstance(node, ast.stmt):
                    self.assertIsInstance(node, STATEMENTS, (path, node.lineno))

    def test_decorators(self):
        for path, tree in trees():
            for node in ast.walk(tree):
                for one in getattr(node, "decorator_list", []):
                    self.assertEqual(ast.unparse(one), "staticmethod", path)

    def test_generator_expressions_stand_nowhere(self):
        # Where a class has __eq__, any, all, min, max, sum and sorted take a list.
        for path, tree in trees():
            for node in ast.walk(tree):
                self.assertNotIsInstance(
                    node, (ast.GeneratorExp, ast.Lambda, ast.Yield, ast.YieldFrom, ast.Await, ast.NamedExpr), path)

    def test_operators_and_values(self):
        for path, tree in trees():
            for node in ast.walk(tree):
                self.assertNotIsInstance(node, (ast.Div, ast.MatMult, ast.Pow), path)
                if isinstance(node, ast.Constant):
                    self.assertNotIsInstance(node.value, (float, complex, bytes), path)
                    self.assertFalse(isinstance(node.value, str) and "%" in node.value, path)

    def test_behind_a_star_stands_a_name_or_an_attribute_of_one(self):
        for path, tree in trees():
            for node in ast.walk(tree):
                if isinstance(node, ast.Starred):
                    named = node.value.value if isinstance(node.value, ast.Attribute) else node.value
                    self.assertIsInstance(named, ast.Name, (path, node.lineno))

    def test_is_stands_with_none_or_a_class(self):
        for path, tree in trees():
            for node in ast.walk(tree):
                if isinstance(node, ast.Compare) and isinstance(node.ops[0], (ast.Is, ast.IsNot)):
                    right = ast.unparse(node.comparators[0])
                    left = ast.unparse(node.left)
                    self.assertTrue(right in ("None", "True", "False") or left.startswith("type("), (path, node.lineno))

    def test_handlers_name_own_errors(self):
        own = {node.name for _, tree in trees() for node in ast.walk(tree) if isinstance(node, ast.ClassDef)}
        for path, tree in trees():
            for node in ast.walk(tree):
                if isinstance(node, ast.ExceptHandler):
                    self.assertIn(ast.unparse(node.type), own, path)
                if isinstance(node, ast.Raise):
                    self.assertIn(ast.unparse(node.exc.func), own, path)

    def test_equality_asks_for_the_class_first(self):
        for path, tree in trees():
            for node in ast.walk(tree):
                if isinstance(node, ast.ClassDef):
                    for method in node.body:
                        if isinstance(method, ast.FunctionDef) and method.name == "__eq__":
                            first = ast.unparse(method.body[0])
                            ways = (f"if not isinstance(other, {node.name}):", f"return isinstance(other, {node.name})")
                            self.assertTrue(first.startswith(ways), (path, node.name))

    def test_every_function_and_class_says_what_it_is(self):
        for path, tree in trees():
            for node in ast.walk(tree):
                if isinstance(node, ast.ClassDef) or (
                        isinstance(node, ast.FunctionDef) and not node.name.startswith("__")):
                    self.assertTrue(ast.get_docstring(node), (path, node.name))


if __name__ == "__main__":
    unittest.main()
