"""Points 2 and 9 to 11: systems, and machines that run whole programs."""

import itertools
import unittest

from untoldrule.errors import (
    InvalidCells,
    InvalidState,
    InvalidSystem,
    InvalidTable,
    OutOfRange,
    UnknownCell,
    UnknownProgram,
    WeaveError,
)
from untoldrule.programs import Program
from untoldrule.systems import Machine, System

WRONG_CELLS = [
    [],
    (),
    ["x", "y", "z", "w"],
    ["x", "x"],
    ["x", "y", "x"],
    [""],
    ["abcdefghi"],
    ["X"],
    ["x", "y1"],
    ["x y"],
    ["x", "\u00e9"],
]

# What follows a function with so many arguments.
OF_A = [[], ["of a"], ["of a a"], ["of a a a"]]


def program(name, *lines):
    return Program.read("\n".join([f"program {name}", *lines]))


def facts(error):
    return error.__class__, vars(error)


class NewSystemTest(unittest.TestCase):
    def test_attributes(self):
        programs = [program("b", "read x as a"), program("a"), program("x", "write x by f")]
        for cells, given in ((["y", "x"], programs), (("y", "x"), tuple(programs))):
            system = System(cells, given)
            self.assertEqual(system.cells, ("y", "x"))
            self.assertEqual(system.names, ("b", "a", "x"))
            self.assertIs(type(system.cells), tuple)
            self.assertIs(type(system.names), tuple)

    def test_no_to_four_programs_and_one_to_three_cells(self):
        for many, number in itertools.product(range(5), range(1, 4)):
            with self.subTest(many=many, number=number):
                system = System(list("xyz"[:number]), [program(name) for name in "abcd"[:many]])
                self.assertEqual(system.names, tuple("abcd"[:many]))
                self.assertEqual(system.cells, tuple("xyz"[:number]))

    def test_the_sequences_are_copied(self):
        cells, programs = ["x"], [program("p", "write x by f")]
        system = System(cells, programs)
        self.assertEqual((cells, len(programs)), (["x"], 1))
        cells[0] = "y"
        cells.append("z")
        programs.clear()
        self.assertEqual(system.cells, ("x",))
        self.assertEqual(system.names, ("p",))
        self.assertEqual(system.program_named("p").name, "p")
        self.assertEqual(system.functions(), [("f", 0)])

    def test_program_named(self):
        programs = [program("p", "read x as a"), program("q", "write x by f")]
        system = System(["x"], programs)
        for given in programs:
            found = system.program_named(given.name)
            self.assertEqual((found.name, found.text()), (given.name, given.text()))

    def test_program_named_by_an_unknown_name(self):
        for programs in ([], [program("p", "read x as a write x by f of a")]):
            for name in ("q", "x", "a", "f", "", "pp", "P"):
                with self.subTest(name=name), self.assertRaises(UnknownProgram) as caught:
                    System(["x"], programs).program_named(name)
                self.assertEqual(caught.exception.name, name)

    def test_one_word_for_all_kinds_of_names(self):
        system = System(["x"], [program("x", "read x as x write x by x of x x")])
        self.assertEqual(system.functions(), [("x", 2)])


class FunctionsTest(unittest.TestCase):
    def test_order_of_first_use(self):
        first = program("p", "read x as a", "write x by h of a a", "write x by f", "write x by h of a a")
        second = program("q", "read x as a write x by g of a a a", "write x by f", "write x by e of a")
        self.assertEqual(System(["x"], [first, second]).functions(), [("h", 2), ("f", 0), ("g", 3), ("e", 1)])
        self.assertEqual(System(["x"], [second, first]).functions(), [("g", 3), ("f", 0), ("e", 1), ("h", 2)])

    def test_no_functions(self):
        self.assertEqual(System(["x"], []).functions(), [])
        self.assertEqual(System(["x"], [program("p"), program("q", "read x as a")]).functions(), [])

    def test_a_new_list_of_tuples(self):
        system = System(["x"], [program("p", "write x by f")])
        found = system.functions()
        self.assertIs(type(found), list)
        self.assertEqual([type(pair) for pair in found], [tuple])
        found.append(("g", 1))
        self.assertEqual(system.functions(), [("f", 0)])


class InvalidSystemTest(unittest.TestCase):
    def refused(self, programs, kind, **fields):
        for given in (list(programs), tuple(programs)):
            with self.assertRaises(WeaveError) as caught:
                System(["x", "y"], given)
            self.assertEqual(facts(caught.exception), (kind, fields))

    def test_wrong_cells_whatever_the_programs_are(self):
        wrong = [
            [],
            [program("p")],
            [program("p"), program("p")],
            [program(name) for name in "abcde"],
            [program("p", "write nocell by f")],
            [program("p", "write x by f", "read x as a write x by f of a")],
        ]
        for cells, programs in itertools.product(WRONG_CELLS, wrong):
            with self.subTest(cells=cells), self.assertRaises(InvalidCells):
                System(cells, programs)

    def test_a_fifth_program(self):
        right = [program(name) for name in "abcd"]
        self.refused([*right, program("e")], InvalidSystem, name="e")
        self.refused([*right, program("a")], InvalidSystem, name="a")
        self.refused([*right, program("e"), program("f")], InvalidSystem, name="e")

    def test_a_fifth_program_comes_ahead_of_its_steps_and_behind_the_programs_before_it(self):
        right = [program(name) for name in "abc"]
        self.refused([*right, program("d"), program("e", "read z as a")], InvalidSystem, name="e")
        self.refused([*right, program("d", "read z as a"), program("e")], UnknownCell, cell="z")
        self.refused([*right, program("c"), program("e")], InvalidSystem, name="c")

    def test_a_name_that_came_before(self):
        self.refused([program("a"), program("a")], InvalidSystem, name="a")
        self.refused([program("a"), program("b"), program("a")], InvalidSystem, name="a")
        self.refused([program("a"), program("b"), program("b"), program("a")], InvalidSystem, name="b")
        same = program("a", "read x as a")
        self.refused([same, same], InvalidSystem, name="a")

    def test_a_name_that_came_before_comes_ahead_of_the_steps(self):
        self.refused([program("a"), program("a", "write z by f")], InvalidSystem, name="a")
        self.refused([program("a", "write z by f"), program("a")], UnknownCell, cell="z")
        self.refused(
            [program("a", "write x by f"), program("a", "read x as b", "write x by f of b")], InvalidSystem, name="a"
        )

    def test_unknown_cells(self):
        for line, cell in (
            ("read z as a", "z"),
            ("write z by f", "z"),
            ("read z as a write x by f", "z"),
            ("read x as a write z by f of a", "z"),
            ("read z as a write w by f of a", "z"),
            ("read w as a write z by f of a", "w"),
            ("read a as x", "a"),
            ("read p as a", "p"),
            ("write f by f", "f"),
        ):
            with self.subTest(line=line):
                self.refused([program("p", line)], UnknownCell, cell=cell)
                self.refused([program("p", "read y as c", line, "read v as a")], UnknownCell, cell=cell)
                self.refused([program("q"), program("p", line), program("q")], UnknownCell, cell=cell)

    def test_another_number_of_arguments(self):
        for first, second in itertools.permutations(range(4), 2):
            lines = [" ".join(["write x by f", *OF_A[many]]) for many in (first, second)]
            both = [f"read y as a {line}" for line in lines]
            for one, two in itertools.product((lines[0], both[0]), (lines[1], both[1])):
                with self.subTest(first=one, second=two):
                    within = program("p", "read x as a", one, two)
                    self.refused([within], InvalidSystem, name="f")
                    apart = [program("f", "read x as a", one), program("q", "read x as a", two)]
                    self.refused(apart, InvalidSystem, name="f")

    def test_the_number_at_the_first_use_counts(self):
        lines = ["read x as a", "write x by f of a", "write x by g of a a"]
        self.refused([program("p", *lines), program("q", "write y by g")], InvalidSystem, name="g")
        self.refused([program("p", *lines), program("q"), program("r", "write y by f")], InvalidSystem, name="f")
        self.refused(
            [program("p", *lines, "write x by g of a"), program("q", "write y by f")], InvalidSystem, name="g"
        )

    def test_a_function_comes_behind_the_cells_of_its_step(self):
        start = program("p", "write x by f")
        self.refused([start, program("q", "read z as a write x by f of a")], UnknownCell, cell="z")
        self.refused([start, program("q", "read x as a write z by f of a")], UnknownCell, cell="z")
        self.refused([start, program("q", "read w as a write z by f of a")], UnknownCell, cell="w")

    def test_one_step_completely_before_the_next_one(self):
        start = program("p", "write x by f")
        wrong = "read x as a write x by f of a"
        self.refused([start, program("q", wrong, "read z as b")], InvalidSystem, name="f")
        self.refused([start, program("q", "read z as b", wrong)], UnknownCell, cell="z")
        self.refused([program("p", "write w by f", "read z as b")], UnknownCell, cell="w")

    def test_one_program_completely_before_the_next_one(self):
        start = program("p", "write x by f")
        wrong = program("q", "read x as a write x by f of a")
        self.refused([start, wrong, start], InvalidSystem, name="f")
        self.refused([start, start, wrong], InvalidSystem, name="p")
        self.refused([start, wrong, program("r", "read z as a")], InvalidSystem, name="f")
        self.refused([start, program("r", "read z as a"), wrong], UnknownCell, cell="z")

    def test_a_system_that_is_refused_leaves_its_programs_as_they_were(self):
        start = program("p", "write x by f")
        self.refused([start, start], InvalidSystem, name="p")
        self.assertEqual(start.text(), "program p\nwrite x by f")
        self.assertEqual(System(["x"], [start]).functions(), [("f", 0)])


def call_line(function, many):
    return " ".join([f"write x by {function}", *(["of", *"abc"[:many]] if many else [])])


READS = ["read x as a", "read y as b", "read z as c"]


def system_of(many):
    """A system with one function f that has so many arguments: the cells x, y and z, in this order."""
    return System(["x", "y", "z"], [program("p", *READS[:many], call_line("f", many))])


class TablesTest(unittest.TestCase):
    def test_the_entry_at_the_digits_of_the_arguments(self):
        for many, size in itertools.product(range(4), (1, 2, 3)):
            system = system_of(many)
            for number, args in enumerate(itertools.product(range(size), repeat=many)):
                # Only one entry differs from the others, so the value tells which entry was taken.
                table = [0] * size**many
                table[number] = size - 1
                machine = Machine(system, size, {"f": table})
                for other in itertools.product(range(size), repeat=many):
                    expected = size - 1 if other == args else 0
                    with self.subTest(size=size, args=args, other=other):
                        self.assertEqual(machine.apply("f", other), expected)
                        self.assertEqual(machine.apply("f", list(other)), expected)

    def test_the_first_argument_is_the_most_significant_digit(self):
        machine = Machine(system_of(2), 3, {"f": (0, 1, 2, 1, 1, 0, 2, 0, 1)})
        self.assertEqual(machine.apply("f", (0, 2)), 2)
        self.assertEqual(machine.apply("f", (2, 0)), 2)
        self.assertEqual(machine.apply("f", (1, 2)), 0)
        self.assertEqual(machine.apply("f", (2, 1)), 0)
        self.assertEqual(machine.apply("f", (1, 0)), 1)
        self.assertEqual(machine.apply("f", (0, 1)), 1)
        self.assertEqual(machine("p", (0, 2, 1)), (2, 2, 1))
        self.assertEqual(machine("p", (2, 1, 1)), (0, 1, 1))

    def test_a_function_without_arguments(self):
        for size in (1, 2, 3):
            for value in range(size):
                machine = Machine(system_of(0), size, {"f": (value,)})
                self.assertEqual(machine.apply("f", ()), value)
                self.assertEqual(machine.apply("f", []), value)
                self.assertEqual(machine("p", (0, 0, 0)), (value, 0, 0))

    def test_attributes(self):
        system = system_of(1)
        machine = Machine(system, 2, {"f": [1, 0]})
        self.assertIs(machine.system, system)
        self.assertEqual(machine.size, 2)

    def test_the_arguments_are_not_modified(self):
        tables, args = {"f": [1, 0]}, [1]
        machine = Machine(system_of(1), 2, tables)
        self.assertEqual(machine.apply("f", args), 0)
        self.assertEqual((tables, args), ({"f": [1, 0]}, [1]))

    def test_later_changes_have_no_effect(self):
        table = [1, 0]
        tables = {"f": table}
        machine = Machine(system_of(1), 2, tables)
        table[0] = 0
        tables["f"] = [0, 0]
        tables["g"] = [0]
        self.assertEqual(machine.apply("f", [0]), 1)
        self.assertEqual(machine("p", (0, 0, 0)), (1, 0, 0))
        table.clear()
        tables.clear()
        self.assertEqual(machine.apply("f", [0]), 1)
        self.assertEqual(machine.apply("f", [1]), 0)
        self.assertEqual(machine.run(["p"], (0, 0, 0)), (1, 0, 0))

    def test_tables_for_other_names_are_ignored(self):
        tables = {"g": [7], "f": [1, 0], "p": [], "x": [-1, 9, 9], "F": [0], "": [0]}
        machine = Machine(system_of(1), 2, tables)
        self.assertEqual(machine.apply("f", [0]), 1)
        self.assertEqual(Machine(System(["x"], []), 3, tables).size, 3)


class InvalidMachineTest(unittest.TestCase):
    def setUp(self):
        first = program("p", "read x as a", "write x by h of a", "write x by c", "write x by h of a")
        second = program("q", "read x as a write x by f of a a")
        self.system = System(["x"], [first, second])
        self.right = {"f": (0, 1, 1, 0), "c": (1,), "h": (1, 0)}

    def refused(self, tables, function):
        with self.subTest(tables=tables), self.assertRaises(InvalidTable) as caught:
            Machine(self.system, 2, tables)
        self.assertEqual(caught.exception.function, function)

    def test_wrong_sizes_whatever_the_tables_are(self):
        for size in (-1, 0, 4, 5, 100):
            for tables in ({}, self.right, {"h": []}, {"h": [9, 9], "c": [0], "f": [0]}):
                with self.subTest(size=size, tables=tables), self.assertRaises(InvalidCells):
                    Machine(self.system, size, tables)

    def test_right_tables(self):
        self.assertEqual(Machine(self.system, 2, self.right).apply("h", [0]), 1)
        reverse = {name: list(self.right[name]) for name in ("h", "c", "f")}
        self.assertEqual(Machine(self.system, 2, reverse).apply("h", [0]), 1)

    def test_a_wrong_table_for_each_function(self):
        for function, right in self.right.items():
            wrong = [[], [0] * (len(right) - 1), [0] * (len(right) + 1), [0] * 9]
            for at, entry in itertools.product(range(len(right)), (-2, -1, 2, 3)):
                wrong.append([*right[:at], entry, *right[at + 1:]])
            for table in wrong:
                self.refused({**self.right, function: table}, function)
                self.refused({**self.right, function: tuple(table)}, function)

    def test_a_missing_table(self):
        for function in self.right:
            self.refused({name: self.right[name] for name in self.right if name != function}, function)

    def test_the_first_function_in_the_order_of_first_use(self):
        self.refused({}, "h")
        self.refused({"f": [9], "c": [9], "h": [1, 0]}, "c")
        self.refused({"f": [9], "h": [1, 0]}, "c")
        self.refused({"c": [1], "h": [1, 0]}, "f")
        self.refused({"f": [9], "c": [9], "h": [9, 9]}, "h")
        self.refused({"c": [2], "f": self.right["f"], "h": [0, 1, 2]}, "h")
        self.refused({"f": [0, 1, 1, 2], "c": [], "h": [1, 0]}, "c")

    def test_a_table_for_another_size(self):
        for size in (1, 3):
            with self.subTest(size=size), self.assertRaises(InvalidTable) as caught:
                Machine(self.system, size, self.right)
            self.assertEqual(caught.exception.function, "h")


class RunningTest(unittest.TestCase):
    def setUp(self):
        # Size 3: up adds 1, and sum adds its arguments, both within 0 to 2.
        self.tables = {"up": (1, 2, 0), "sum": (0, 1, 2, 1, 2, 0, 2, 0, 1), "two": (2,)}
        self.system = System(
            ["x", "y"],
            [
                program("inc", "read x as a write x by up of a"),
                program("swap", "read x as a", "read y as b", "write x by sum of b b", "write y by up of a"),
                program("acc", "read x as a", "read y as a write y by sum of a a", "write x by two"),
                program("none"),
            ],
        )
        self.machine = Machine(self.system, 3, self.tables)

    def test_each_kind_of_step(self):
        for x, y in itertools.product(range(3), repeat=2):
            with self.subTest(x=x, y=y):
                self.assertEqual(self.machine("inc", (x, y)), ((x + 1) % 3, y))
                self.assertEqual(self.machine("swap", (x, y)), (2 * y % 3, (x + 1) % 3))
                self.assertEqual(self.machine("acc", (x, y)), (2, 2 * y % 3))
                self.assertEqual(self.machine("none", (x, y)), (x, y))

    def test_a_read_takes_the_present_value_and_keeps_it(self):
        lines = ["read x as a write x by up of a", "read x as b", "write x by up of b", "write y by sum of a b"]
        machine = Machine(System(["x", "y"], [program("p", *lines)]), 3, self.tables)
        for x in range(3):
            self.assertEqual(machine("p", (x, 0)), ((x + 2) % 3, (2 * x + 1) % 3))

    def test_a_step_that_reads_and_writes_reads_first(self):
        system = System(["x"], [program("p", "read x as a write x by up of a", "write x by up of a")])
        self.assertEqual(Machine(system, 3, self.tables)("p", (0,)), (1,))

    def test_a_state_may_be_a_list_and_is_not_modified(self):
        state = [1, 2]
        for found in (self.machine("inc", state), self.machine.run(("inc",), state), self.machine.run([], state)):
            self.assertIs(type(found), tuple)
        self.assertEqual(self.machine("inc", state), (2, 2))
        self.assertEqual(self.machine.run([], state), (1, 2))
        self.assertEqual(state, [1, 2])

    def test_a_run_of_several_programs(self):
        runs = [[], ["inc"], ["inc", "inc"], ["none", "none"], ["swap", "inc", "swap"], ["inc", "acc", "swap", "inc"]]
        for names in runs:
            for state in itertools.product(range(3), repeat=2):
                expected = state
                for name in names:
                    expected = self.machine(name, expected)
                with self.subTest(names=names, state=state):
                    self.assertEqual(self.machine.run(names, state), expected)
                    self.assertEqual(self.machine.run(tuple(names), list(state)), expected)
        self.assertEqual(self.machine.run(["inc", "swap"], (0, 0)), (0, 2))
        self.assertEqual(self.machine.run(["swap", "inc"], (0, 0)), (1, 1))

    def test_the_names_are_not_modified(self):
        names = ["inc", "swap", "inc"]
        self.machine.run(names, (0, 0))
        self.assertEqual(names, ["inc", "swap", "inc"])

    def test_variables_of_another_run_have_no_effect(self):
        first = self.machine.run(["swap", "swap"], (1, 2))
        self.machine("swap", (0, 0))
        self.assertEqual(self.machine.run(["swap", "swap"], (1, 2)), first)

    def test_unknown_programs(self):
        for state in ((0, 0), (0,), (9, 9), ()):
            with self.subTest(state=state), self.assertRaises(UnknownProgram) as caught:
                self.machine("nobody", state)
            self.assertEqual(caught.exception.name, "nobody")
            for names, name in (
                (["nobody"], "nobody"),
                (["inc", "x", "nobody"], "x"),
                (("inc", "swap", "up"), "up"),
                (["b", "inc", "a"], "b"),
            ):
                with self.subTest(names=names, state=state), self.assertRaises(UnknownProgram) as caught:
                    self.machine.run(names, state)
                self.assertEqual(caught.exception.name, name)

    def test_invalid_states(self):
        calls = [
            lambda state: self.machine("inc", state),
            lambda state: self.machine("none", state),
            lambda state: self.machine.run(["swap", "inc"], state),
            lambda state: self.machine.run([], state),
        ]
        for call, kind in itertools.product(calls, (tuple, list)):
            for state, cell, value in (
                ((), None, None),
                ((0,), None, None),
                ((0, 0, 0), None, None),
                ((9, 9, 9), None, None),
                ((3, 0), "x", 3),
                ((-1, 9), "x", -1),
                ((2, 3), "y", 3),
                ((0, -1), "y", -1),
            ):
                with self.subTest(state=state), self.assertRaises(InvalidState) as caught:
                    call(kind(state))
                self.assertEqual(caught.exception.cell, cell)
                if cell is None:
                    self.assertIsNone(caught.exception.__cause__)
                else:
                    self.assertEqual(facts(caught.exception.__cause__), (OutOfRange, {"cell": cell, "value": value}))

    def test_a_system_without_programs(self):
        machine = Machine(System(["x"], []), 2, {})
        self.assertEqual(machine.run([], [1]), (1,))
        with self.assertRaises(UnknownProgram):
            machine("p", (0,))


if __name__ == "__main__":
    unittest.main()
