"""Some rules of the language that the files of the package are written in."""

import ast
import pathlib
import unittest

PACKAGE = pathlib.Path(__file__).resolve().parent.parent / "triesgrow"
LIBRARY = {
    "heapq": {"heappush", "heappop", "heapify", "heapreplace", "heappushpop"},
    "math": {"gcd", "lcm", "isqrt", "comb", "perm", "factorial"},
    "itertools": {"product", "combinations", "permutations"},
    "__future__": {"annotations"},
}
FORBIDDEN = (ast.Global, ast.AsyncFunctionDef, ast.Await, ast.Import, ast.Div)


def files():
    return sorted(PACKAGE.glob("*.py"))


class Language(unittest.TestCase):

    def test_the_folder_holds_files_alone(self):
        others = [path.name for path in PACKAGE.iterdir() if path.suffix != ".py" and path.name != "__pycache__"]
        self.assertEqual(others, [])
        self.assertIn("__init__.py", [path.name for path in files()])

    def test_sizes_and_characters(self):
        for path in files():
            text = path.read_text(encoding="utf-8")
            rows = text.split("\n")
            self.assertLessEqual(len(rows) - 1, 399, path)
            for row in rows:
                self.assertLessEqual(len(row), 120, path)
                self.assertTrue(all(" " <= sign <= "~" for sign in row), (path, row))

    def test_functions_are_small(self):
        for path in files():
            for node in ast.walk(ast.parse(path.read_text())):
                if isinstance(node, ast.FunctionDef):
                    self.assertLessEqual(node.end_lineno - node.lineno + 1, 40, (path, node.name))

    def test_imports(self):
        for path in files():
            tree = ast.parse(path.read_text())
            for node in ast.walk(tree):
                if isinstance(node, ast.ImportFrom):
                    self.assertEqual(node.level, 0, path)
                    names = {each.name for each in node.names}
                    own = node.module.startswith("triesgrow.") and "*" not in names
                    self.assertTrue(own or names <= LIBRARY.get(node.module, set()), (path, node.module, names))

    def test_what_the_language_has_not(self):
        for path in files():
            if path.name != "__main__.py":
                for node in ast.walk(ast.parse(path.read_text())):
                    self.assertNotIsInstance(node, FORBIDDEN, path)
                    if isinstance(node, ast.Constant):
                        self.assertNotIsInstance(node.value, (float, complex), path)
