"""The form of the package's files, as far as the language rules can be counted."""

import ast
import pathlib
import unittest

PACKAGE = pathlib.Path(__file__).resolve().parent.parent / "untoldrule"
ALLOWED = ("__future__", "collections", "heapq", "itertools", "math")
CHANGES = ("append", "clear", "extend", "insert", "pop", "remove", "reverse", "setdefault", "sort", "update")
VIEWS = ("items", "keys", "values")


def source_files():
    return [path for path in sorted(PACKAGE.rglob("*")) if "__pycache__" not in path.parts]


def functions_of(path):
    tree = ast.parse(path.read_text(encoding="utf-8"))
    return [node for node in ast.walk(tree) if isinstance(node, ast.FunctionDef)]


class Loops:
    """The loops and comprehensions of a function, with what they walk and what they change, as far as names tell."""

    def __init__(self, function):
        self.function = function
        self.given = {}
        for node in ast.walk(function):
            for target in targets_of(node):
                self.given.setdefault(target, []).append(node.value)

    def faults(self):
        """A tuple (row, walked, changed) for each loop that may walk what is changed in it."""
        found = []
        for row, head, rows in self.walks():
            origins, makers = self.origins_of(head)
            for changed in changed_places(rows):
                known = self.origins_of(changed)[0]
                fields = [name for name in known if name.split(".")[0].split("[")[0] in makers]
                if fields or origins & known:
                    found.append((row, ast.unparse(head), ast.unparse(changed)))
        return found

    def walks(self):
        """A tuple for each head: its row, what is walked, and all that is done while it is walked."""
        for node in ast.walk(self.function):
            if isinstance(node, ast.For):
                yield node.lineno, node.iter, node.body
            for part in getattr(node, "generators", []):
                yield node.lineno, part.iter, [node]

    def origins_of(self, node, seen=()):
        """What may give this list: names and fields that may mean it, and the objects whose calls may have made it.

        A copy of a name or a field is a new list. A copy of what a call makes is not told apart from what it copies.
        """
        if isinstance(node, ast.Name):
            values = [] if node.id in seen else self.given.get(node.id, [])
            return self.joined(values, (*seen, node.id), {node.id})
        if isinstance(node, (ast.Attribute, ast.Subscript)):
            return ({ast.unparse(node)}, set())
        if isinstance(node, (ast.IfExp, ast.BoolOp)):
            return self.joined(node.values if isinstance(node, ast.BoolOp) else [node.body, node.orelse], seen)
        if isinstance(node, ast.Call) and isinstance(node.func, ast.Attribute) and node.func.attr in VIEWS:
            return self.joined([node.func.value], seen)
        if isinstance(node, ast.Call) and ast.unparse(node.func) in ("enumerate", "zip", "reversed"):
            return self.joined(node.args, seen)
        return (set(), makers_in(node))

    def joined(self, nodes, seen, own=()):
        origins, makers = set(own), set()
        for node in nodes:
            more, others = self.origins_of(node, seen)
            origins |= more
            makers |= others
        return (origins, makers)


def targets_of(node):
    """The names that a statement or an expression gives a value."""
    if not isinstance(node, (ast.Assign, ast.AnnAssign, ast.NamedExpr)) or node.value is None:
        return []
    targets = node.targets if isinstance(node, ast.Assign) else [node.target]
    names = [part for target in targets for part in ast.walk(target) if isinstance(part, ast.Name)]
    return [name.id for name in names if isinstance(name.ctx, ast.Store)]


def makers_in(node):
    """The names with which the calls of methods in an expression begin: self in list(self.weave.walk())."""
    found = set()
    for part in ast.walk(node):
        if isinstance(part, ast.Call) and isinstance(part.func, ast.Attribute):
            begin = part.func
            while isinstance(begin, (ast.Attribute, ast.Subscript, ast.Call)):
                begin = begin.func if isinstance(begin, ast.Call) else begin.value
            if isinstance(begin, ast.Name):
                found.add(begin.id)
    return found


def changed_places(rows):
    """What these rows change: what gets other items, and the fields that are assigned."""
    found = []
    for node in [part for row in rows for part in ast.walk(row)]:
        if isinstance(node, ast.Call) and isinstance(node.func, ast.Attribute) and node.func.attr in CHANGES:
            found.append(node.func.value)
        if isinstance(node, ast.Subscript) and not isinstance(node.ctx, ast.Load):
            found.append(node.value)
        if isinstance(node, ast.Attribute) and not isinstance(node.ctx, ast.Load):
            found.append(node)
        if isinstance(node, ast.AugAssign) and isinstance(node.target, ast.Name):
            found.append(node.target)
    return found


def faults_of(text):
    functions = [node for node in ast.walk(ast.parse(text)) if isinstance(node, ast.FunctionDef)]
    return [fault for function in functions for fault in Loops(function).faults()]


def faults_in_rows(rows):
    """What is wrong in the loops of a function with these rows."""
    return faults_of("\n".join(["def work(self, xs, ys, box):", *["    " + row for row in rows.split("\n")]]))


class PackageTest(unittest.TestCase):
    def test_the_folder_contains_nothing_but_source_files(self):
        self.assertIn(PACKAGE / "__init__.py", source_files())
        self.assertEqual([path for path in source_files() if path.suffix != ".py"], [])

    def test_files_and_lines_are_short_and_plain(self):
        for path in source_files():
            lines = path.read_text(encoding="utf-8").split("\n")
            with self.subTest(path=path.name):
                self.assertLessEqual(len(lines), 399)
                self.assertLessEqual(max(len(line) for line in lines), 120)
                self.assertTrue(all(" " <= character <= "~" for line in lines for character in line))

    def test_functions_are_short(self):
        for path in source_files():
            for node in functions_of(path):
                with self.subTest(path=path.name, function=node.name):
                    self.assertLessEqual(node.end_lineno - node.lineno + 1, 40)

    def test_what_a_loop_walks_is_not_changed_in_it(self):
        for path in source_files():
            with self.subTest(path=path.name):
                self.assertEqual(faults_of(path.read_text(encoding="utf-8")), [])

    def test_imports_are_from_the_package_or_allowed_by_the_language(self):
        for path in source_files():
            for node in ast.walk(ast.parse(path.read_text(encoding="utf-8"))):
                self.assertNotIsInstance(node, ast.Import)
                if isinstance(node, ast.ImportFrom):
                    with self.subTest(path=path.name, module=node.module):
                        self.assertTrue(node.module.startswith("untoldrule.") or node.module in ALLOWED)


# Each of these loops walks what is changed in it, or what is not told apart from it.
WRONG_LOOPS = [
    "for x in xs:\n    xs.append(x)",
    "for x in xs:\n    xs[0] = x",
    "for x in xs:\n    del xs[0]",
    "for x in xs:\n    xs += [x]",
    "for x in xs:\n    if x:\n        xs.pop()\n        return x",
    "for x in self.rows:\n    self.rows.append(x)",
    "for x in self.rows:\n    self.rows = [x]",
    "for x in self.tables[0]:\n    self.tables[0].append(x)",
    "for at, x in enumerate(xs):\n    xs[at] = x",
    "for x, y in zip(ys, xs):\n    xs.remove(x)",
    "for x in reversed(xs):\n    xs.pop()",
    "for key, x in xs.items():\n    xs[key] = x",
    "for key in xs.keys():\n    xs.pop(key)",
    "for x in xs if box else ys:\n    ys.append(x)",
    "for x in xs or ys:\n    xs.append(x)",
    "return [xs.pop() for x in xs]",
    "return {x: xs.setdefault(x, y) for y in ys for x in xs}",
    "return [x for x in xs if xs.pop()]",
    "found = xs\nfor x in found:\n    xs.append(x)",
    "found = xs\nfor x in xs:\n    found.append(x)",
    "first = xs\nfound = first\nfor x in found:\n    xs.append(x)",
    "newest = [xs]\nwhile newest:\n    found = []\n    for x in newest:\n        found.append(x)\n    newest = found",
    "weavings = list(self.weave.walk())\nfor x in weavings:\n    self._decided[x] = self.lets(x)",
    "weavings = self.weave.walk()\nfor x in weavings:\n    self._decided[x] = self.lets(x)",
    "weavings = box.weavings()\nfor x in weavings:\n    box.found.append(x)",
    "weavings = box.weavings()\nfor x in weavings:\n    box.found = x",
    "weavings = box.weavings()\nfor x in weavings:\n    box.number += 1",
    "weavings = box.weavings()\nfor x in weavings:\n    del box.found[x]",
    "weavings = box.weavings()\nfor x in weavings:\n    box.append(x)",
    "weavings = box.weavings()\nfor x in weavings:\n    box.rows[0].append(x)",
    "weavings = box.rows[0].weavings()\nfor x in weavings:\n    box.found.append(x)",
    "weavings = sorted(box.weavings())\nfor at, x in enumerate(weavings):\n    box.found[at] = x",
    "weavings, number = box.weavings()\nfor x in weavings:\n    box.found.append(x)",
    "weavings: list = box.weavings()\nfor x in weavings:\n    box.found.append(x)",
    "weavings = xs\nif ys:\n    weavings = box.weavings()\nfor x in weavings:\n    box.found.append(x)",
    "weavings = box.weavings()\nothers = weavings\nfor x in others:\n    box.found.append(x)",
    "weavings = box.weavings()\nfound = box.found\nfor x in weavings:\n    found.append(x)",
    "weavings = box.weavings()\nreturn [box.found.pop() for x in weavings]",
    "for x in self.weavings():\n    self._found[x] = self.opened(x)",
    "for x in list(self.weavings()):\n    self._found[x] = self.opened(x)",
]

# None of these loops does.
RIGHT_LOOPS = [
    "for x in xs:\n    ys.append(x)",
    "for x in xs:\n    self.rows.append(x)",
    "for x in self.rows:\n    self.found.append(x)",
    "for x in list(xs):\n    xs.remove(x)",
    "for x in list(self.rows):\n    self.rows.remove(x)",
    "for x in sorted(xs):\n    del xs[x]",
    "found = list(xs)\nfor x in found:\n    xs.append(x)",
    "found = []\nfor x in xs:\n    found.append(x)\nxs.extend(found)",
    "found = {}\nweavings = list(self.walk())\nfor x in weavings:\n    found[x] = self.lets(x)\nself._found = found",
    "weavings = list(self.weave.walk())\nself._found = {x: self.lets(x) for x in weavings}",
    "weavings = list(self.weave.walk())\nfor x in list(weavings):\n    self._found[x] = self.lets(x)",
    "weavings = box.weavings()\nfor x in weavings:\n    self.found.append(x)",
    "number = 0\nfor x in box.weavings():\n    number += x\nself.number = number",
]


class LoopsTest(unittest.TestCase):
    """The reading of the loops, by which the files of the package are tested above."""

    def test_loops_that_walk_what_is_changed_in_them_are_found(self):
        for rows in WRONG_LOOPS:
            with self.subTest(rows=rows):
                self.assertNotEqual(faults_in_rows(rows), [])

    def test_other_loops_are_not_found(self):
        for rows in RIGHT_LOOPS:
            with self.subTest(rows=rows):
                self.assertEqual(faults_in_rows(rows), [])

    def test_the_row_and_both_places_are_told(self):
        rows = "weavings = list(self.weave.walk())\nfor x in weavings:\n    self._decided[x] = self.lets(x)"
        self.assertEqual(faults_in_rows(rows), [(3, "weavings", "self._decided")])


if __name__ == "__main__":
    unittest.main()
