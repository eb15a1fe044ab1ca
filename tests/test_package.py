"""The form of the package's files, as far as the language rules can be counted."""

import ast
import pathlib
import unittest

PACKAGE = pathlib.Path(__file__).resolve().parent.parent / "untoldrule"
ALLOWED = ("__future__", "collections", "heapq", "itertools", "math")


def source_files():
    return [path for path in sorted(PACKAGE.rglob("*")) if "__pycache__" not in path.parts]


class PackageTest(unittest.TestCase):
    def test_the_folder_contains_nothing_but_source_files(self):
        self.assertIn(PACKAGE / "__init__.py", source_files())
        self.assertEqual([path for path in source_files() if path.suffix != ".py"], [])

    def test_files_and_lines_are_short_and_plain(self):
        for path in source_files():
            lines = path.read_text(encoding="utf-8").split("\n")
            with self.subTest(path=path.name):
                self.assertLessEqual(len(lines), 399)
                self.assertLessEqual(max(len(line) for line in lines), 120)
                self.assertTrue(all(" " <= character <= "~" for line in lines for character in line))

    def test_functions_are_short(self):
        for path in source_files():
            for node in ast.walk(ast.parse(path.read_text(encoding="utf-8"))):
                if isinstance(node, ast.FunctionDef):
                    with self.subTest(path=path.name, function=node.name):
                        self.assertLessEqual(node.end_lineno - node.lineno + 1, 40)

    def test_imports_are_from_the_package_or_allowed_by_the_language(self):
        for path in source_files():
            for node in ast.walk(ast.parse(path.read_text(encoding="utf-8"))):
                self.assertNotIsInstance(node, ast.Import)
                if isinstance(node, ast.ImportFrom):
                    with self.subTest(path=path.name, module=node.module):
                        self.assertTrue(node.module.startswith("untoldrule.") or node.module in ALLOWED)


if __name__ == "__main__":
    unittest.main()
