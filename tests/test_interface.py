"""The interface of DOC.md stands where it says, and the files of the package are of the size and kind asked for."""

import ast
import pathlib
import unittest

PACKAGE = pathlib.Path(__file__).resolve().parent.parent / "fewestwait"

# For each file that has landed: its functions with their arguments, its classes with their methods.
FUNCTIONS = {
    "rows.py": {"not_fewer": ["one", "other"], "not_evener": ["one", "other"]},
    "moves.py": {
        "less_moves": ["one", "other"],
        "even_moves": ["one", "other", "lines"],
        "less_moved": ["row", "moves"],
        "even_moved": ["row", "moves", "lines"],
    },
    "deeds.py": {
        "work_deed": ["row", "deed"],
        "line_deed": ["row", "lines", "deed"],
        "keeps_fewer": ["deed", "other"],
        "keeps_evener": ["lines", "deed", "other"],
        "breaks_fewer": ["deed", "other"],
        "breaks_evener": ["lines", "deed", "other"],
    },
    "days.py": {
        "check_plan": ["day", "plan"],
        "row_at": ["day", "plan", "minute"],
        "finished": ["day", "plan"],
        "waiting": ["day", "plan"],
        "plan_for": ["day", "minute", "done"],
        "forbidding": ["day", "minute", "done"],
    },
    "rules.py": {
        "plan_of": ["rule", "day"],
        "table": ["day", "plan"],
        "is_table": ["day", "plan", "items"],
        "least_waiting": ["day"],
        "least_tails": ["day", "minute"],
        "worse_day": ["rule"],
    },
    "weights.py": {
        "cost": ["people", "order"],
        "exchange_gain": ["people", "order", "i"],
        "least_cost": ["people"],
        "best_order": ["people"],
        "best_orders": ["people"],
    },
    "hands.py": {
        "least_minutes": ["works", "hands"],
        "hands_plan": ["works", "hands"],
        "is_hands_plan": ["works", "hands", "plan"],
        "least_sum": ["works", "hands"],
        "division": ["works", "hands"],
        "division_sum": ["works", "lists"],
        "two_hands": [],
    },
    "lines.py": {
        "lengths": ["lines", "events", "choices"],
        "shortest_choices": ["lines", "events"],
        "round_choices": ["lines", "events"],
        "common": ["lines", "events"],
        "lines_table": ["lines", "events", "choices"],
        "stays": ["lines", "events", "choices"],
    },
    "told.py": {"rules_for": ["day", "plan"], "choices_for": ["lines", "events", "choices"]},
    "texts.py": {
        "show_row": ["row"],
        "show_day": ["day"],
        "show_plan": ["plan"],
        "read_row": ["text"],
        "read_day": ["text"],
        "read_plan": ["text"],
    },
}
CLASSES = {
    "errors.py": {
        "DayError": {}, "InvalidRow": {}, "InvalidMove": {}, "InvalidDeed": {}, "InvalidDay": {}, "InvalidWork": {},
        "InvalidOrder": {}, "InvalidLines": {}, "NotFewer": {}, "NotEvener": {}, "NothingToUndo": {},
        "InvalidText": {}, "InvalidCommand": {}, "NotReady": {}, "InvalidPlan": {"__init__": ["self", "at"]},
    },
    "rows.py": {
        "Row": {
            "__init__": ["self", "items"], "parts": ["self"], "__len__": ["self"], "__iter__": ["self"],
            "head": ["self", "k"], "tail": ["self", "k"], "fewer": ["self", "other"], "evener": ["self", "other"],
            "__add__": ["self", "other"], "__eq__": ["self", "other"],
        },
    },
    "rules.py": {
        "Shortest": {"__eq__": ["self", "other"]}, "First": {"__eq__": ["self", "other"]},
        "Longest": {"__eq__": ["self", "other"]}, "Turns": {"__eq__": ["self", "other"]},
    },
    "live.py": {
        "LiveDay": {
            "__init__": ["self", "rule"], "minute": ["self"], "row": ["self"], "plan": ["self"], "comings": ["self"],
            "waiting": ["self"], "come": ["self", "work"], "over": ["self"], "__len__": ["self"],
            "back": ["self", "*", "count"],
        },
    },
    "console.py": {"Console": {"execute": ["self", "command"]}},
}


def tree_of(path):
    return ast.parse(path.read_text(encoding="utf-8"))


def arguments_of(node):
    """The names of a function's arguments, with the star if some stand behind it."""
    behind = [arg.arg for arg in node.args.kwonlyargs]
    return [arg.arg for arg in node.args.args] + (["*", *behind] if behind else [])


def functions_in(body):
    """The functions that are defined just here, each with the names of its arguments."""
    return {node.name: arguments_of(node) for node in body if isinstance(node, ast.FunctionDef)}


class Interface(unittest.TestCase):
    def test_functions_are_defined_in_their_files(self):
        for name, functions in FUNCTIONS.items():
            found = functions_in(tree_of(PACKAGE / name).body)
            for function, arguments in functions.items():
                self.assertEqual(found.get(function), arguments, f"{name}: {function}")

    def test_classes_and_their_methods_are_defined_in_their_files(self):
        for name, classes in CLASSES.items():
            body = tree_of(PACKAGE / name).body
            found = {node.name: functions_in(node.body) for node in body if isinstance(node, ast.ClassDef)}
            for one, methods in classes.items():
                self.assertIn(one, found)
                for method, arguments in methods.items():
                    self.assertEqual(found[one].get(method), arguments, f"{name}: {one}.{method}")


    def test_properties(self):
        for name, one, properties in [
            ("rows.py", "Row", ["parts"]),
            ("live.py", "LiveDay", ["comings", "minute", "plan", "row", "waiting"]),
        ]:
            [body] = [node.body for node in tree_of(PACKAGE / name).body if getattr(node, "name", None) == one]
            found = [node.name for node in body if isinstance(node, ast.FunctionDef) and node.decorator_list]
            self.assertEqual(sorted(found), properties)

    def test_files_of_the_interface_are_all_named_here(self):
        files = {path.name for path in PACKAGE.glob("*.py")}
        self.assertEqual(files - {"__init__.py", "kinds.py"}, set(FUNCTIONS) | set(CLASSES))


class Files(unittest.TestCase):
    def test_the_package_has_nothing_but_python_files(self):
        names = [path.name for path in PACKAGE.iterdir() if path.name != "__pycache__"]
        self.assertIn("__init__.py", names)
        self.assertEqual([name for name in names if not name.endswith(".py")], [])

    def test_sizes_and_characters(self):
        for path in PACKAGE.glob("*.py"):
            text = path.read_text(encoding="utf-8")
            lines = text.split("\n")
            self.assertLessEqual(len(lines), 399, path.name)
            self.assertLessEqual(max(map(len, lines)), 120, path.name)
            self.assertEqual([sign for sign in text if sign != "\n" and not " " <= sign <= "~"], [], path.name)
            for node in ast.walk(tree_of(path)):
                if isinstance(node, ast.FunctionDef):
                    self.assertLessEqual(node.end_lineno - node.lineno + 1, 40, f"{path.name}: {node.name}")

    def test_imports_are_of_the_package_only(self):
        for path in PACKAGE.glob("*.py"):
            for node in ast.walk(tree_of(path)):
                self.assertNotIsInstance(node, ast.Import, path.name)
                if isinstance(node, ast.ImportFrom):
                    self.assertTrue(node.module.startswith("fewestwait."), path.name)


if __name__ == "__main__":
    unittest.main()
