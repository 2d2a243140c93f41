"""The form of the package's files: what of ../shared/LANGUAGE.md a few lines can look at."""

import ast
import unittest
from pathlib import Path

PACKAGE = Path(__file__).resolve().parent.parent / "coinlanes"
FUNCTIONS = (ast.FunctionDef, ast.AsyncFunctionDef)


def sources():
    return {path.name: path.read_text(encoding="utf-8") for path in sorted(PACKAGE.glob("*.py"))}


class FormTest(unittest.TestCase):
    def test_the_folder_holds_plain_files_alone(self):
        found = [path.name for path in PACKAGE.iterdir() if path.name != "__pycache__"]
        self.assertEqual(sorted(found), sorted(sources()))
        self.assertIn("__init__.py", found)
        self.assertEqual([name for name in found if name.startswith("test")], [])

    def test_sizes(self):
        for name, text in sources().items():
            lines = text.split("\n")
            self.assertLessEqual(len(lines), 400, name)
            self.assertLessEqual(max(map(len, lines)), 120, name)
            for node in ast.walk(ast.parse(text)):
                if isinstance(node, FUNCTIONS):
                    self.assertLessEqual(node.end_lineno - node.lineno + 1, 40, (name, node.name))

    def test_signs(self):
        for name, text in sources().items():
            self.assertEqual([sign for sign in text if sign != "\n" and not " " <= sign <= "~"], [], name)

    def test_imports(self):
        library = {"heapq", "math", "itertools", "collections"}
        for name, text in sources().items():
            for node in ast.walk(ast.parse(text)):
                self.assertNotIsInstance(node, ast.Import, name)
                if isinstance(node, ast.ImportFrom):
                    first = node.module.split(".")[0]
                    self.assertTrue(node.level == 0 and (first == "coinlanes" or first in library), name)


if __name__ == "__main__":
    unittest.main()
