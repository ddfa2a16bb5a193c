"""The examples of the document, as it writes them, and the names of its interface."""

import inspect
import unittest
from importlib import import_module
from pathlib import Path

from flowtells.errors import NetError

FOLDER = Path(__file__).parent / "examples"
ORDER = [
    "checks", "papers", "webs", "pieces", "turns", "tables", "trees", "flows", "pulls", "shortened", "classes", "rounds",
    "rows", "lots", "bars", "check_lots", "unwebbed", "check_unwebbed", "bonds", "grown", "check_grown", "told",
    "check_told", "alike", "same", "check_alike", "plane", "check_plane"]

# For each module its functions and classes with the names of their parameters.
INTERFACE = {
    "errors": {
        "NetError": None, "BadNumber": ["part"], "BadWeb": ["part"], "BadTable": ["part"], "BadLot": ["part"],
        "Misfit": ["part"], "Missing": ["value"], "NoPlace": ["value"], "NoTie": ["value"], "Twice": ["value"],
        "TooMany": ["what", "most"], "BadText": ["line", "item"],
    },
    "checks": {
        "is_integer": ["value"], "is_within": ["value", "least", "most"], "are_integers": ["value"],
        "first_twice": ["values"],
    },
    "papers": {"fixed": ["value"], "Paper": ["word", "parts"], "Denial": ["word", "parts"]},
    "webs": {"Web": ["places", "ties"], "rounds": ["web"], "bonds": ["web"], "bridges": ["web"]},
    "pieces": {"pieces": ["web"], "parting_places": ["web"], "in_a_row": ["web"], "beside": ["web"]},
    "turns": {"turned": ["web", "one", "other", "ties"]},
    "tables": {"Table": ["rows"]},
    "trees": {"first_tree": ["web"], "many_trees": ["web"]},
    "flows": {
        "share": ["one", "other"], "is_flow": ["web", "numbers"], "flow_basis": ["web"], "flow_table": ["web"],
        "InRounds": ["pairs"], "in_rounds": ["web", "flow"], "shows_in_rounds": ["web", "flow", "value"],
    },
    "pulls": {"is_pull": ["web", "numbers"], "pull_basis": ["web"], "pull_table": ["web"]},
    "shortened": {"Shortened": ["table", "points"], "shortened": ["table"], "shows_shortened": ["table", "value"]},
    "classes": {"least": ["table"]},
    "rounds": {"alone": ["table"], "numbers": ["table"]},
    "rows": {"small_rows": ["table"]},
    "lots": {"Lot": ["rows", "times"], "lot_of": ["web"]},
    "bars": {"LotOf": ["lot"], "NoLot": ["bar"], "lot": ["table"]},
    "check_lots": {"shows_lot": ["table", "value"]},
    "unwebbed": {"NoWeb": ["kept", "idle", "names"], "unwebbed": ["lot"]},
    "check_unwebbed": {"shows_unwebbed": ["lot", "value"]},
    "bonds": {"relations": ["lot"]},
    "grown": {"Grown": ["web", "times", "flows"], "grown": ["lot"]},
    "check_grown": {"shows_grown": ["lot", "value"]},
    "told": {"told": ["table"]},
    "check_told": {"shows_told": ["table", "value"]},
    "alike": {"Alike": ["ties"], "Unlike": [], "alike": ["one", "other"]},
    "same": {"Same": ["points"], "Unsame": [], "same": ["one", "other"]},
    "check_alike": {"shows_alike": ["one", "other", "value"], "shows_same": ["one", "other", "value"]},
    "plane": {"Plane": ["sides", "ties"], "NotPlane": ["struck", "drawn", "names"], "plane": ["web"]},
    "check_plane": {"shows_plane": ["web", "value"]},
}
METHODS = {
    "papers": {"Paper": {"__init__": ["self", "word", "parts"], "__eq__": None},
               "Denial": {"__init__": ["self", "word", "parts"], "__eq__": None}},
    "webs": {"Web": {"__init__": ["self", "places", "ties"], "__eq__": None, "__str__": ["self"], "read": ["text"]}},
    "tables": {"Table": {"__init__": ["self", "rows"], "__eq__": None, "__str__": ["self"], "read": ["text"],
                         "length": ["self", "point"], "share": ["self", "one", "other"],
                         "changed": ["self", "points"]}},
    "flows": {"InRounds": {"__init__": ["self", "pairs"]}},
    "shortened": {"Shortened": {"__init__": ["self", "table", "points"]}},
    "lots": {"Lot": {"__init__": ["self", "rows", "times"], "__eq__": None}},
    "bars": {"LotOf": {"__init__": ["self", "lot"]}, "NoLot": {"__init__": ["self", "bar"]}},
    "unwebbed": {"NoWeb": {"__init__": ["self", "kept", "idle", "names"]}},
    "grown": {"Grown": {"__init__": ["self", "web", "times", "flows"]}},
    "alike": {"Alike": {"__init__": ["self", "ties"]}, "Unlike": {"__init__": ["self"]}},
    "same": {"Same": {"__init__": ["self", "points"]}, "Unsame": {"__init__": ["self"]}},
    "plane": {"Plane": {"__init__": ["self", "sides", "ties"]},
              "NotPlane": {"__init__": ["self", "struck", "drawn", "names"]}},
}


def all_names():
    """All names of the interface, as if they were imported."""
    return {name: getattr(import_module("flowtells." + module), name)
            for module, names in INTERFACE.items() for name in names}


def examples_of(section):
    """The examples of a section: each line that is asked, and the line told for it, if there is one."""
    asked = []
    for line in (FOLDER / (section + ".txt")).read_text(encoding="utf-8").splitlines():
        if line.startswith(">>> "):
            asked.append([line[4:], None])
        else:
            asked[-1][1] = line
    return asked


def answer(line, names):
    """What a line gives, as the document writes it; names keeps what it assigns."""
    try:
        code = compile(line, "<example>", "eval")
    except SyntaxError:
        exec(line, names)
        return None
    try:
        return repr(eval(code, names))
    except NetError as error:
        return f"raises {type(error).__name__}({', '.join(map(repr, vars(error).values()))})"


class Examples(unittest.TestCase):
    """Each section's examples, with the names that earlier ones made last."""

    def test_every_example(self):
        names = all_names()
        counts = {}
        for section in ORDER:
            for line, told in examples_of(section):
                with self.subTest(section=section, line=line):
                    self.assertEqual(answer(line, names), told)
            counts[section] = len(examples_of(section))
        self.assertEqual(
            [counts[section] for section in ORDER],
            [1, 1, 13, 5, 5, 9, 5, 10, 6, 3, 7, 9, 6, 6, 1, 4, 5, 6, 4, 5, 4, 8, 6, 7, 5, 3, 10, 5])


class Interface(unittest.TestCase):
    """Each name is defined where the interface lists it, with the parameters that it tells."""

    def test_names_are_defined_in_their_files(self):
        for module, names in INTERFACE.items():
            for name, parameters in names.items():
                with self.subTest(module=module, name=name):
                    value = getattr(import_module("flowtells." + module), name)
                    self.assertEqual(value.__module__, "flowtells." + module)
                    self.assertEqual(value.__name__, name)
                    if parameters is not None:
                        self.assertEqual(list(inspect.signature(value).parameters), parameters)

    def test_methods_are_defined_in_their_classes(self):
        for module, classes in METHODS.items():
            for name, methods in classes.items():
                kind = getattr(import_module("flowtells." + module), name)
                for method, parameters in methods.items():
                    with self.subTest(name=name, method=method):
                        self.assertIn(method, vars(kind))
                        if parameters is not None:
                            found = inspect.signature(getattr(kind, method)).parameters
                            self.assertEqual(list(found), parameters)


if __name__ == "__main__":
    unittest.main()
