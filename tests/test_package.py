import ast
import unittest
from pathlib import Path

import lineturns

FOLDER = Path(lineturns.__file__).parent


class PackageTest(unittest.TestCase):
    def test_init_is_empty_but_for_a_docstring(self):
        tree = ast.parse((FOLDER / "__init__.py").read_text())
        self.assertTrue(ast.get_docstring(tree))
        self.assertEqual(len(tree.body), 1)

    def test_names_are_defined_in_their_files(self):
        wanted = {
            "errors": ["LineError", "InvalidRow", "InvalidRule", "InvalidText", "InvalidRound", "InvalidFault",
                       "InvalidCommand", "Refused", "NoRow"],
            "rows": ["Row"],
            "rounds": ["play", "Played"],
            "rules": ["Rule"],
        }
        for module, names in wanted.items():
            tree = ast.parse((FOLDER / (module + ".py")).read_text())
            defined = [row.name for row in tree.body if isinstance(row, (ast.ClassDef, ast.FunctionDef))]
            for name in names:
                self.assertIn(name, defined)


if __name__ == "__main__":
    unittest.main()
