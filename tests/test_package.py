import ast
import doctest
import unittest
from pathlib import Path

import lineturns

FOLDER = Path(lineturns.__file__).parent
README = Path(__file__).parent.parent / "README.md"


class PackageTest(unittest.TestCase):
    def test_init_is_empty_but_for_a_docstring(self):
        tree = ast.parse((FOLDER / "__init__.py").read_text())
        self.assertTrue(ast.get_docstring(tree))
        self.assertEqual(len(tree.body), 1)

    def test_names_are_defined_in_their_files(self):
        wanted = {
            "errors": ["LineError", "InvalidRow", "InvalidRule", "InvalidText", "InvalidRound", "InvalidFault",
                       "InvalidCommand", "Refused", "NoRow"],
            "rows": ["Row"],
            "rounds": ["play", "Played"],
            "rules": ["Rule"],
            "deciding": ["happens", "least", "faults", "history", "ring", "ring_holds"],
            "waiting": ["waits", "longest", "growth", "least_worse"],
            "papers": ["paper", "paper_holds"],
            "comparing": ["alike", "least_parting", "needless", "kin", "merged"],
            "levels": ["play_levels", "levels"],
            "line": ["Line"],
            "desk": ["Desk"],
        }
        for module, names in wanted.items():
            tree = ast.parse((FOLDER / (module + ".py")).read_text())
            defined = [row.name for row in tree.body if isinstance(row, (ast.ClassDef, ast.FunctionDef))]
            for name in names:
                self.assertIn(name, defined)

    def test_methods_stand_in_their_classes(self):
        wanted = {
            ("rows", "Row"): ["__init__", "__eq__", "__str__"],
            ("rules", "Rule"): ["__init__", "__call__", "__len__", "__getitem__", "__add__", "__eq__", "__str__",
                                "without", "renamed", "read"],
            ("line", "Line"): ["__init__", "__len__", "__iadd__", "rounds", "ask", "several", "change", "undo", "trial",
                               "within"],
            ("desk", "Desk"): ["__init__", "say"],
        }
        for (module, name), methods in wanted.items():
            tree = ast.parse((FOLDER / (module + ".py")).read_text())
            body = [row for row in tree.body if isinstance(row, ast.ClassDef) and row.name == name][0].body
            defined = [row.name for row in body if isinstance(row, ast.FunctionDef)]
            for method in methods:
                self.assertIn(method, defined)

    def test_the_examples_of_the_readme(self):
        told = doctest.testfile(str(README), module_relative=False)
        self.assertGreater(told.attempted, 10)
        self.assertEqual(told.failed, 0)


if __name__ == "__main__":
    unittest.main()
