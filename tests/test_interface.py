"""The interface: names, arguments and kinds as written, each method in its own class, each name in its own file."""

import inspect
import unittest

from untoldrule import cells, errors, programs

METHODS = {
    (cells, "Cells"): {
        "__init__": ["self", "names", "size"],
        "__iter__": None,
        "__getitem__": None,
        "__setitem__": None,
        "change": ["self", "name", "value"],
        "reset": ["self", "state"],
        "states": ["self"],
        "rank": ["self", "state"],
        "trial": ["self"],
        "peek": ["self", "changes"],
    },
    (programs, "Read"): {"text": ["self"], "reads": ["self"], "writes": ["self"]},
    (programs, "Write"): {"text": ["self"], "reads": ["self"], "writes": ["self"]},
    (programs, "ReadWrite"): {"text": ["self"], "reads": ["self"], "writes": ["self"]},
    (programs, "Program"): {"text": ["self"]},
}


class InterfaceTest(unittest.TestCase):
    def test_methods_are_defined_in_the_class_itself(self):
        for (module, owner), methods in METHODS.items():
            for name, arguments in methods.items():
                with self.subTest(owner=owner, name=name):
                    method = vars(getattr(module, owner))[name]
                    if arguments is not None:
                        self.assertEqual(list(inspect.signature(method).parameters), arguments)

    def test_classes_are_defined_in_their_file(self):
        for module, owner in METHODS:
            with self.subTest(owner=owner):
                self.assertEqual(getattr(module, owner).__module__, module.__name__)
        self.assertEqual(errors.WeaveError.__module__, "untoldrule.errors")

    def test_columns_is_a_function_of_its_file(self):
        self.assertEqual(cells.columns.__module__, "untoldrule.cells")
        self.assertEqual(list(inspect.signature(cells.columns).parameters), ["names", "states"])

    def test_contents_is_a_property_with_a_setter(self):
        contents = vars(cells.Cells)["contents"]
        self.assertIsInstance(contents, property)
        self.assertIsNotNone(contents.fset)

    def test_read_is_a_class_method(self):
        read = vars(programs.Program)["read"]
        self.assertIsInstance(read, classmethod)
        self.assertEqual(list(inspect.signature(programs.Program.read).parameters), ["text"])

    def test_arguments_may_be_passed_by_name(self):
        held = cells.Cells(names=["x", "y"], size=2)
        held.change(name="x", value=1)
        self.assertEqual(held.peek(changes=[("y", 1)]), (1, 1))
        self.assertEqual(held.rank(state=(1, 0)), 2)
        held.reset(state=(0, 1))
        self.assertEqual(held.contents, (0, 1))
        self.assertEqual(cells.columns(names=["x"], states=[]), ["        x"])
        self.assertEqual(programs.Program.read(text="program p").name, "p")


if __name__ == "__main__":
    unittest.main()
