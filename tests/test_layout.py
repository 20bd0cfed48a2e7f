"""The interface's names stand in their files, and the package keeps to sizes and characters."""

import ast
import importlib
import inspect
import unittest
from pathlib import Path

PACKAGE = Path(__file__).resolve().parent.parent / "windowbelt"
INTERFACE = {
    "windowbelt.programs": {
        "is_instruction": ["value"], "written_by": ["instruction"], "used_by": ["instruction"],
    },
    "windowbelt.plain": {
        "ran": ["program", "state", "most"], "ended": ["program", "state"],
    },
    "windowbelt.designs": {
        "event_number": ["event"], "is_entry": ["value"], "may_hold": ["entry"],
        "is_design": ["value"], "home_of": ["design", "kind"], "with_table": ["design", "table"],
    },
    "windowbelt.windows": {
        "events_behind": ["design", "program", "state", "guesser", "row"],
        "stand": ["design", "program", "state", "guesser", "row"],
        "has_ended": ["design", "program", "state", "guesser", "row"],
        "run": ["design", "program", "state", "guesser", "numbers"],
    },
    "windowbelt.rights": {
        "needs": ["design"], "missing": ["design"], "least_table": ["design"],
        "is_forced": ["design", "entry"], "is_right": ["design"],
        "shows": ["design", "program", "state", "guesser", "row"],
        "shown": ["design", "need"], "first_shown": ["design"],
    },
    "windowbelt.stops": {
        "stopped": ["design", "program", "state", "guesser", "row"],
        "stops_cleanly": ["design"], "unclean": ["design"],
    },
    "windowbelt.frees": {
        "effective_width": ["design"], "count_rows": ["design", "block", "state"],
        "rounds_of": ["design", "program", "state", "guesser"],
        "lets_by_all": ["one", "other"], "barred_row": ["one", "other"], "freest": ["design"],
    },
    "windowbelt.texts": {
        "write_program": ["program"], "write_design": ["design"],
        "read_program": ["text"], "read_design": ["text"],
    },
    "windowbelt.desks": {"Desk": ["design", "program", "state", "guesser"]},
}


def imports_in(tree):
    """The names of all modules that a file imports from."""
    found = []
    for node in ast.walk(tree):
        if isinstance(node, ast.Import):
            found.extend(name.name for name in node.names)
        elif isinstance(node, ast.ImportFrom):
            found.append("." * node.level + (node.module or ""))
    return found


class Interface(unittest.TestCase):
    def test_names_and_arguments(self):
        for module, functions in INTERFACE.items():
            for name, arguments in functions.items():
                with self.subTest(module, name=name):
                    function = getattr(importlib.import_module(module), name)
                    self.assertEqual(function.__module__, module)
                    self.assertEqual(list(inspect.signature(function).parameters), arguments)

    def test_what_a_desk_defines_itself(self):
        desk = importlib.import_module("windowbelt.desks").Desk
        for name, arguments in (("run", ["self", "line"]), ("undo", ["self"])):
            self.assertEqual(list(inspect.signature(vars(desk)[name]).parameters), arguments)
        for name in ("row", "state"):
            self.assertIsInstance(vars(desk)[name], property)


class Files(unittest.TestCase):
    def setUp(self):
        self.files = [file for file in PACKAGE.rglob("*") if "__pycache__" not in file.parts]

    def test_only_python_files(self):
        self.assertIn(PACKAGE / "__init__.py", self.files)
        self.assertEqual([file for file in self.files if file.suffix != ".py"], [])

    def test_sizes_and_characters(self):
        for file in self.files:
            with self.subTest(file.name):
                text = file.read_bytes().decode("ascii")
                self.assertEqual([c for c in text if c != "\n" and not " " <= c <= "~"], [])
                lines = text.splitlines()
                self.assertLessEqual(len(lines), 399)
                self.assertLessEqual(max(len(line) for line in lines), 120)

    def test_functions_and_imports(self):
        for file in self.files:
            with self.subTest(file.name):
                tree = ast.parse(file.read_text(encoding="ascii"))
                for node in ast.walk(tree):
                    if isinstance(node, ast.FunctionDef):
                        self.assertLessEqual(node.end_lineno - node.lineno + 1, 40, node.name)
                for module in imports_in(tree):
                    self.assertTrue(module.startswith("windowbelt."), module)


if __name__ == "__main__":
    unittest.main()
