"""The form of the package's files, as far as the language rules can be counted."""

import ast
import pathlib
import unittest

PACKAGE = pathlib.Path(__file__).resolve().parent.parent / "untoldrule"
ALLOWED = ("__future__", "collections", "heapq", "itertools", "math")
CHANGES = ("append", "clear", "extend", "insert", "pop", "remove", "reverse", "setdefault", "sort", "update")


def source_files():
    return [path for path in sorted(PACKAGE.rglob("*")) if "__pycache__" not in path.parts]


def functions_of(path):
    tree = ast.parse(path.read_text(encoding="utf-8"))
    return [node for node in ast.walk(tree) if isinstance(node, ast.FunctionDef)]


def same_lists(function):
    """The pairs of names of which one is assigned to the other, so that both may mean the same list."""
    found = set()
    for node in ast.walk(function):
        if isinstance(node, ast.Assign) and isinstance(node.value, (ast.Name, ast.Attribute)):
            for target in node.targets:
                found.add((ast.unparse(target), ast.unparse(node.value)))
    return found


def walked_names(loop):
    """What a loop walks: a name or an attribute, also within enumerate, zip, reversed or items, but not within list."""
    if isinstance(loop, (ast.Name, ast.Attribute)):
        return [ast.unparse(loop)]
    if isinstance(loop, ast.Call) and isinstance(loop.func, ast.Attribute) and loop.func.attr in ("items", "values"):
        return walked_names(loop.func.value)
    if isinstance(loop, ast.Call) and ast.unparse(loop.func) in ("enumerate", "zip", "reversed"):
        return [name for part in loop.args for name in walked_names(part)]
    return []


def changed_names(rows):
    found = []
    for row in rows:
        for node in ast.walk(row):
            if isinstance(node, ast.Call) and isinstance(node.func, ast.Attribute) and node.func.attr in CHANGES:
                found.append(ast.unparse(node.func.value))
            if isinstance(node, ast.Subscript) and not isinstance(node.ctx, ast.Load):
                found.append(ast.unparse(node.value))
    return found


class PackageTest(unittest.TestCase):
    def test_the_folder_contains_nothing_but_source_files(self):
        self.assertIn(PACKAGE / "__init__.py", source_files())
        self.assertEqual([path for path in source_files() if path.suffix != ".py"], [])

    def test_files_and_lines_are_short_and_plain(self):
        for path in source_files():
            lines = path.read_text(encoding="utf-8").split("\n")
            with self.subTest(path=path.name):
                self.assertLessEqual(len(lines), 399)
                self.assertLessEqual(max(len(line) for line in lines), 120)
                self.assertTrue(all(" " <= character <= "~" for line in lines for character in line))

    def test_functions_are_short(self):
        for path in source_files():
            for node in functions_of(path):
                with self.subTest(path=path.name, function=node.name):
                    self.assertLessEqual(node.end_lineno - node.lineno + 1, 40)

    def test_what_a_loop_walks_is_not_changed_in_it(self):
        for path in source_files():
            for function in functions_of(path):
                same = same_lists(function)
                for loop in ast.walk(function):
                    if isinstance(loop, ast.For):
                        for walked in walked_names(loop.iter):
                            for changed in changed_names(loop.body):
                                with self.subTest(path=path.name, row=loop.lineno, walked=walked, changed=changed):
                                    self.assertNotEqual(walked, changed)
                                    self.assertNotIn((walked, changed), same)
                                    self.assertNotIn((changed, walked), same)

    def test_imports_are_from_the_package_or_allowed_by_the_language(self):
        for path in source_files():
            for node in ast.walk(ast.parse(path.read_text(encoding="utf-8"))):
                self.assertNotIsInstance(node, ast.Import)
                if isinstance(node, ast.ImportFrom):
                    with self.subTest(path=path.name, module=node.module):
                        self.assertTrue(node.module.startswith("untoldrule.") or node.module in ALLOWED)


if __name__ == "__main__":
    unittest.main()
